import Derived.Deep.QuietTactic
import Derived.BigQuiet
import Derived.Test.YtponpgcpmlcdpaaGreatDoorAvm
import Derived.Test.YtponpgcpmlcdpaaGreatDoorAk
import Derived.Test.YtponpgcpmlcdpaaGreatDoorAo
namespace Go.Proofs.YtponpgcpmlcdpaaGreatDoor
open Go.RowKit Go.Shelf Km Kx Kc Kt
set_option linter.unusedVariables false
set_option linter.unusedSimpArgs false
set_option maxRecDepth 100000 in
set_option maxHeartbeats 8000000 in
theorem zns (y:Cf × List Int) (A:Option Addr) (len cap:Nat) (os:List Op) (w:World) (hc:CfAt w y.1 y.2) (w2:os.length = len ∧ len ≤ cap ∧ cap ≤ maxLen ∧ (∀ p ∈ os,p.At w w.heap.size) ∧ Rd w w.heap.size A (cat Op.cells os)) (ht:Tbs w) :
  Calls Tryz.prog 3 #[.agg (cf y.1).toArray,.slice A len cap] w fun e w' => e = .returned (.bool true) ∧ Below w.heap.size w w':=by
 obtain ⟨c,xs⟩:=y
 dsimp only at hc ⊢
 obtain ⟨hlen,-,-,hat,hrd⟩:=w2
 have HB:Hid (Bxs w w [] [] (ofz os ++ [(c.ta,i64s xs)])):=Lib.hid (zid ((Bxs.start w).zo6 hc.rd) (ofz_rd hat))
 have HHd:Hid (∀ W,Below w.heap.size w W → Calls Tryz.prog 6 #[] W fun e w' => e = .returned (.bool true) ∧ Below W.heap.size W w'):=Lib.hid (fun W hb => head_any W (ht.1.below hb (Nat.le_refl _)) (ht.2.below hb (Nat.le_refl _)))
 obtain ⟨F0,hF0⟩ : ∃ F0,F0 = ofz os ++ [(c.ta,i64s xs)]:=⟨_,rfl⟩
 rw [←hF0] at HB
 have HF:Hid (Within [(c.ta,i64s xs)] F0):=Lib.hid (fun q hq => .inr (by rw [hF0]; exact List.mem_append.2 (.inr hq)))
 have HFo:Hid (∀ o ∈ os,∀ q ∈ mfz o.m.ms o.m.lo,q ∈ F0):=Lib.hid (fun o ho q hq => by rw [hF0]; exact List.mem_append.2 (.inl (ofz_mem ho q hq)))
 clear hF0
 have HL:=Lib.hid hc.len
 have HAt:=Lib.hid hat
 have HRd:=Lib.hid hrd
 have HLen:=Lib.hid hlen
 have HT:=Lib.hid ht
 have hio:(Tryz.prog.info? 39).map (·.size) = some 29:=by kernel_rfl
 clear hat hrd hlen
 by_cases hn:NewOk c xs 1
 case neg =>
  as_aux_lemma =>
   have HNo:=Lib.hid (fun (W:World) (L:List (Nat × List Value)) (r':List Rw) (q:Bxs w W L r' F0) => New_no q c xs 1 HF.out HL.out hn)
   clear hc ht hn HFo HAt HRd HLen HT
   go_enter Tryz.func3,Tryz.ntmps3
   go_wp2_with (first | (go_at_call 6; refine Calls.mono (HHd.out _ HB.out.below) ?_; rintro e w_ ⟨rfl,hb_⟩; replace HB:=Lib.hid (HB.out.call hb_); clear hb_) | (go_at_call 7; refine (HNo.out _ _ _ HB.out).mono ?_; rintro e w_ ⟨rfl,hb_⟩; replace HB:=Lib.hid hb_; clear hb_) | (first | ((with_reducible refine zai HB ?_); clear HB; intro w_ HB) | ((with_reducible refine zaf ?_); (first | refine boxa HB rfl ?_ | refine boxt HB rfl rfl ?_ | refine box1 HB rfl rfl ?_); clear HB; intro b_ w_ HB; refine Kx.fr ?_) | ((with_reducible refine zaa ?_); (first | refine ala HB ?_ | refine al1 HB ?_); clear HB; intro b_ w_ HB; refine Kx.fr ?_) | ((with_reducible refine zab ?_); first | refine Kx.l1 HB rfl rfl ?_ | refine Kx.la HB rfl ?_ | refine Kx.lo HB rfl HC.out ?_) | ((with_reducible refine zac ?_); first | refine l1g HB rfl rfl rfl ?_ | refine Kx.lag HB rfl rfl ?_ | refine Kx.log HB rfl HC.out rfl ?_) | ((with_reducible refine zae ?_); (first | refine stwa HB rfl rfl ?_ | refine sta HB rfl rfl ?_ | refine Kx.stc HB rfl rfl ?_ | refine Kx.stt HB rfl rfl rfl ?_ | refine Kx.st1 HB rfl rfl rfl ?_); clear HB; intro w_ HB)))
   go_ret
   exact ⟨rfl,HB.out.below⟩
 obtain ⟨N,hN⟩ : ∃ N:Nat,c.targets = (N:Int):=⟨c.targets.toNat,by have:=hn.1.targets; omega⟩
 have HNw:=Lib.hid (fun (W:World) (L:List (Nat × List Value)) (r':List Rw) (q:Bxs w W L r' F0) => New_y q c xs 1 N HF.out HL.out hn hN)
 have hN16:N ≤ 16:=by have:=hn.1.targets.2; omega
 have hcl:0 ≤ c.l ∧ c.l ≤ 1048576:=by have:=hn.1.l; omega
 have hcm:0 ≤ c.m ∧ c.m ≤ 1048576:=hn.1.m
 have hcs:0 ≤ c.s ∧ c.s ≤ 1048576:=by have:=hn.1.s; omega
 have HCf:Hid (∀ A2 c2,ze2 { c with ta:=A2,tn:=c.tn,tc:=c2 } xs):=Lib.hid (fun A2 c2 => hn.1.re)
 have HN:=Lib.hid hN
 clear hc ht hn hN
 by_cases hgr:150 < (len:Int)
 ·as_aux_lemma =>
   have HG:=Lib.hid (zli A len cap true (decide_eq_true hgr))
   clear hgr HFo HAt HRd HLen HT
   go_enter Tryz.func3,Tryz.ntmps3
   go_wp2_with (first | (go_at_call 6; refine Calls.mono (HHd.out _ HB.out.below) ?_; rintro e w_ ⟨rfl,hb_⟩; replace HB:=Lib.hid (HB.out.call hb_); clear hb_) | (go_at_call 7; fail) | (first | ((with_reducible refine zai HB ?_); clear HB; intro w_ HB) | ((with_reducible refine zaf ?_); (first | refine boxa HB rfl ?_ | refine boxt HB rfl rfl ?_ | refine box1 HB rfl rfl ?_); clear HB; intro b_ w_ HB; refine Kx.fr ?_) | ((with_reducible refine zaa ?_); (first | refine ala HB ?_ | refine al1 HB ?_); clear HB; intro b_ w_ HB; refine Kx.fr ?_) | ((with_reducible refine zab ?_); first | refine Kx.l1 HB rfl rfl ?_ | refine Kx.la HB rfl ?_ | refine Kx.lo HB rfl HC.out ?_) | ((with_reducible refine zac ?_); first | refine l1g HB rfl rfl rfl ?_ | refine Kx.lag HB rfl rfl ?_ | refine Kx.log HB rfl HC.out rfl ?_) | ((with_reducible refine zae ?_); (first | refine stwa HB rfl rfl ?_ | refine sta HB rfl rfl ?_ | refine Kx.stc HB rfl rfl ?_ | refine Kx.stt HB rfl rfl rfl ?_ | refine Kx.st1 HB rfl rfl rfl ?_); clear HB; intro w_ HB)))
   refine (HNw.out _ _ _ HB.out).mono ?_
   rintro e w2 ⟨⟨ga,g,A2,c2,p⟩,rfl,HJ,hx,hf⟩
   dsimp only at HJ hx hf
   obtain ⟨ok,KA,KC,RA,RC,HB2⟩:=HJ
   clear HB
   have HB:=Lib.hid HB2
   clear HB2 hx hf ok
   go_wp2_with (first | (go_at_call 8; refine Calls.mono (HG.out _) ?_; rintro e w_ ⟨rfl,hb_⟩; replace HB:=Lib.hid (HB.out.call hb_); clear hb_) | (first | ((with_reducible refine zai HB ?_); clear HB; intro w_ HB) | ((with_reducible refine zaf ?_); (first | refine boxa HB rfl ?_ | refine boxt HB rfl rfl ?_ | refine box1 HB rfl rfl ?_); clear HB; intro b_ w_ HB; refine Kx.fr ?_) | ((with_reducible refine zaa ?_); (first | refine ala HB ?_ | refine al1 HB ?_); clear HB; intro b_ w_ HB; refine Kx.fr ?_) | ((with_reducible refine zab ?_); first | refine Kx.l1 HB rfl rfl ?_ | refine Kx.la HB rfl ?_ | refine Kx.lo HB rfl HC.out ?_) | ((with_reducible refine zac ?_); first | refine l1g HB rfl rfl rfl ?_ | refine Kx.lag HB rfl rfl ?_ | refine Kx.log HB rfl HC.out rfl ?_) | ((with_reducible refine zae ?_); (first | refine stwa HB rfl rfl ?_ | refine sta HB rfl rfl ?_ | refine Kx.stc HB rfl rfl ?_ | refine Kx.stt HB rfl rfl rfl ?_ | refine Kx.st1 HB rfl rfl rfl ?_); clear HB; intro w_ HB)))
   go_ret
   exact ⟨rfl,HB.out.below⟩
 have hle:len ≤ 150:=by omega
 have HG:=Lib.hid (zli A len cap false (decide_eq_false hgr))
 clear hgr
 go_enter Tryz.func3,Tryz.ntmps3
 go_wp2_with (first | (go_at_call 6; refine Calls.mono (HHd.out _ HB.out.below) ?_; rintro e w_ ⟨rfl,hb_⟩; replace HB:=Lib.hid (HB.out.call hb_); clear hb_) | (go_at_call 7; fail) | (first | ((with_reducible refine zai HB ?_); clear HB; intro w_ HB) | ((with_reducible refine zaf (d:=some 2) ?_); (first | refine boxa HB rfl ?_ | refine boxt HB rfl rfl ?_ | refine box1 HB rfl rfl ?_); clear HB; intro b2 w_ HB; refine Kx.fr ?_) | ((with_reducible refine zaa (d:=some 2) ?_); (first | refine ala HB ?_ | refine al1 HB ?_); clear HB; intro b2 w_ HB; refine Kx.fr ?_) | ((with_reducible refine zaf ?_); (first | refine boxa HB rfl ?_ | refine boxt HB rfl rfl ?_ | refine box1 HB rfl rfl ?_); clear HB; intro b_ w_ HB; refine Kx.fr ?_) | ((with_reducible refine zaa ?_); (first | refine ala HB ?_ | refine al1 HB ?_); clear HB; intro b_ w_ HB; refine Kx.fr ?_) | ((with_reducible refine zab ?_); first | refine Kx.l1 HB rfl rfl ?_ | refine Kx.la HB rfl ?_ | refine Kx.lo HB rfl HC.out ?_) | ((with_reducible refine zac ?_); first | refine l1g HB rfl rfl rfl ?_ | refine Kx.lag HB rfl rfl ?_ | refine Kx.log HB rfl HC.out rfl ?_) | ((with_reducible refine zae ?_); (first | refine stwa HB rfl rfl ?_ | refine sta HB rfl rfl ?_ | refine Kx.stc HB rfl rfl ?_ | refine Kx.stt HB rfl rfl rfl ?_ | refine Kx.st1 HB rfl rfl rfl ?_); clear HB; intro w_ HB)))
 refine (HNw.out _ _ _ HB.out).mono ?_
 rintro e w2 ⟨⟨ga,g,A2,c2,p⟩,rfl,HJ,hx,hf⟩
 dsimp only at HJ hx hf
 obtain ⟨F1,hF1⟩ : ∃ F1,F1 = (p.A,i64s p.x.pen) :: (A2,i64s xs) :: F0:=⟨_,rfl⟩
 rw [←hF1] at HJ
 obtain ⟨c1,hc1⟩ : ∃ c1,c1 = ({ c with ta:=A2,tn:=c.tn,tc:=c2 }:Cf):=⟨_,rfl⟩
 rw [←hc1] at HJ
 have HC1:Hid (c1.l = c.l ∧ c1.m = c.m ∧ c1.s = c.s ∧ c1.targets = (N:Int) ∧ ze2 c1 xs ∧ xs.length = c1.tn ∧ (c1.ta,i64s xs) ∈ F1):=Lib.hid (by rw [hc1]; exact ⟨rfl,rfl,rfl,HN.out,HCf.out _ _,HL.out,by rw [hF1]; exact List.mem_cons_of_mem _ (List.mem_cons_self ..)⟩)
 have HFo2:Hid (∀ o ∈ os,∀ q ∈ mfz o.m.ms o.m.lo,q ∈ F1):=Lib.hid (fun o ho q hq => by rw [hF1]; exact List.mem_cons_of_mem _ (List.mem_cons_of_mem _ (HFo.out o ho q hq)))
 have HI0:Hid (LI (zp N) 1 c1 (0 * 8200) F1 F1 [] (newA c1 1 p) Jm.new):=Lib.hid ⟨⟨⟨hf,zmu hx (by rw [hF1]; exact List.mem_cons_self ..),by show p.x.right = true; rw [hx]; exact zi6 hN16 ⟨by decide,by decide⟩ ⟨by decide,by decide⟩⟩,.inl rfl,I0,I0,rfl,by show 0 ≤ c1.l ∧ c1.l ≤ 1048576; rw [HC1.out.1]; exact hcl,by show 0 ≤ c1.m ∧ c1.m ≤ 1048576; rw [HC1.out.2.1]; exact hcm⟩,.inl (JUp.new (by rw [zp2,hx])),Nat.le_refl _,rfl,fun q hq => hq⟩
 have HV0:Hid (WInv [] [] 0 0 (KK (zp N) []) (newA c1 1 p) Jm.new):=Lib.hid ⟨⟨.inl ⟨rfl,rfl⟩,Int.le_refl _,fun v hv => absurd hv List.not_mem_nil⟩,rfl,⟨Int.le_refl _,Int.le_refl _⟩,fun t ht => absurd ht List.not_mem_nil,fun _ => ⟨rfl,fun _ t ht => absurd ht List.not_mem_nil⟩⟩
 obtain ⟨a0,ha0⟩ : ∃ a,a = newA c1 1 p:=⟨_,rfl⟩
 rw [←ha0] at HJ HI0 HV0
 obtain ⟨ok,KA,KC,RA,RC,HB2⟩:=HJ
 clear HB HNw HHd HF HFo hF1 ha0 hc1 HCf HN
 have HB:=Lib.hid HB2
 clear HB2 hx hf ok hN16
 go_wp2_with (first | (go_at_call 8; refine Calls.mono (HG.out _) ?_; rintro e w_ ⟨rfl,hb_⟩; replace HB:=Lib.hid (HB.out.call hb_); clear hb_) | (first | ((with_reducible refine zai HB ?_); clear HB; intro w_ HB) | ((with_reducible refine zaf ?_); (first | refine boxa HB rfl ?_ | refine boxt HB rfl rfl ?_ | refine box1 HB rfl rfl ?_); clear HB; intro b_ w_ HB; refine Kx.fr ?_) | ((with_reducible refine zaa ?_); (first | refine ala HB ?_ | refine al1 HB ?_); clear HB; intro b_ w_ HB; refine Kx.fr ?_) | ((with_reducible refine zab ?_); first | refine Kx.l1 HB rfl rfl ?_ | refine Kx.la HB rfl ?_ | refine Kx.lo HB rfl HC.out ?_) | ((with_reducible refine zac ?_); first | refine l1g HB rfl rfl rfl ?_ | refine Kx.lag HB rfl rfl ?_ | refine Kx.log HB rfl HC.out rfl ?_) | ((with_reducible refine zae ?_); (first | refine stwa HB rfl rfl ?_ | refine sta HB rfl rfl ?_ | refine Kx.stc HB rfl rfl ?_ | refine Kx.stt HB rfl rfl rfl ?_ | refine Kx.st1 HB rfl rfl rfl ?_); clear HB; intro w_ HB)))
 replace HB:=Lib.hid (((HB.out.zm6 2 1).zm6 2 1).front (.tail _ (.tail _ (.tail _ (.head _)))))
 replace HB:=Lib.hid (HB.out.front (.tail _ (.tail _ (.tail _ (.head _)))))
 go_loopg [7,8,9,10,11] len (fun gh ox tx nx ex ix wr => ∃ (k q:Nat) (a:Ac) (s:Jm.St) (rs:List Mm.Ms) (F:Fz) (nw ep:Int) (A7:Option Addr) (c7:Nat) (A8:Option Addr) (c8:Nat) (vs ts:List Int),gh + k = len ∧ ox = .slice A7 q c7 ∧ tx = .slice A8 q c8 ∧ nx = .int .i64 nw ∧ ex = .int .i64 ep ∧ ix = .int .i64 (k:Int) ∧ q ≤ k ∧ Hid (vs.length = q ∧ ts.length = q) ∧ Hid (0 ≤ nw ∧ nw ≤ 1099511627776) ∧ Hid (LI (zp N) 1 c1 (k * 8200) F1 F rs a s) ∧ Hid (WInv vs ts ep nw (KK (zp N) rs) a s) ∧ Hid (Jbx w wr g s [(ga,a.cells g),(b2,cf c)] [⟨A7,c7,2,1,q,Kc.i64s vs⟩,⟨A8,c8,2,1,q,Kc.i64s ts⟩] F))
 case atStart => exact ⟨0,0,a0,Jm.new,[],F1,0,0,none,0,none,0,[],[],by omega,rfl,rfl,rfl,rfl,rfl,Nat.le_refl _,Lib.hid ⟨rfl,rfl⟩,Lib.hid ⟨by decide,by decide⟩,HI0,HV0,Lib.hid ⟨Jm.zpy,_,_,_,_,HB.out⟩⟩
 case round =>
  clear HB HI0 HV0 HG
  obtain ⟨k,q,a,s,rs,F,nw,ep,A7,c7,A8,c8,vs,ts,hk,rfl,rfl,rfl,rfl,rfl,hqk,HVL,HNw,HI,HV,HJ⟩:=hrel
  by_cases hlt:k < len
  ·obtain ⟨o,ho⟩ : ∃ o,os[k]? = some o:=⟨os[k]'(by rw [HLen.out]; exact hlt),List.getElem?_eq_getElem _⟩
   have hmem:=List.mem_of_getElem? ho
   obtain ⟨ad,rfl,hlt2,hcc⟩:=Rd.part Op.ze0 HRd.out ho (by decide)
   have d3:(k:Int) < (len:Int):=by omega
   have HC:=Lib.hid (fun j v (hj:o.cells[j]? = some v) => (by rw [addr_add_add]; exact hcc j v hj:w.cell? ((ad.add (k * 29)).add j) = some v))
   have HAo:=Lib.hid (HAt.out o hmem)
   have HWi:Hid (Within (mfz o.m.ms o.m.lo) F):=Lib.hid (fun q hq => .inr (HI.out.more q (HFo2.out o hmem q hq)))
   have hsz:Jm.size s ≤ 1230000:=by have h:=HI.out.sz; have h2:k * 8200 ≤ 150 * 8200:=Nat.mul_le_mul_right _ (by omega); omega
   have HSz:=Lib.hid hsz
   obtain ⟨ok,KA,KC,RA,RC,HB2⟩:=HJ.out
   have HB:=Lib.hid HB2
   have HOk:=Lib.hid ok
   clear HB2 ok hcc hmem ho HFo2 HAt HRd HLen hlt2 HJ hsz
   go_upto_region 13 with (first | ((with_reducible refine zao ?_); (refine zg8 rfl 39 _ rfl _ rfl o.cells _ (fun j v hv => HB.out.old (HC.out j v hv)) Tryz.underlying39 rfl hio ?_)) | (first | ((with_reducible refine zai HB ?_); clear HB; intro w_ HB) | ((with_reducible refine zaf (d:=some 12) ?_); (first | refine boxa HB rfl ?_ | refine boxt HB rfl rfl ?_ | refine box1 HB rfl rfl ?_); clear HB; intro b12 w_ HB; refine Kx.fr ?_) | ((with_reducible refine zaa (d:=some 12) ?_); (first | refine ala HB ?_ | refine al1 HB ?_); clear HB; intro b12 w_ HB; refine Kx.fr ?_) | ((with_reducible refine zaf ?_); (first | refine boxa HB rfl ?_ | refine boxt HB rfl rfl ?_ | refine box1 HB rfl rfl ?_); clear HB; intro b_ w_ HB; refine Kx.fr ?_) | ((with_reducible refine zaa ?_); (first | refine ala HB ?_ | refine al1 HB ?_); clear HB; intro b_ w_ HB; refine Kx.fr ?_) | ((with_reducible refine zab ?_); first | refine Kx.l1 HB rfl rfl ?_ | refine Kx.la HB rfl ?_ | refine Kx.lo HB rfl HC.out ?_) | ((with_reducible refine zac ?_); first | refine l1g HB rfl rfl rfl ?_ | refine Kx.lag HB rfl rfl ?_ | refine Kx.log HB rfl HC.out rfl ?_) | ((with_reducible refine zae ?_); (first | refine stwa HB rfl rfl ?_ | refine sta HB rfl rfl ?_ | refine Kx.stc HB rfl rfl ?_ | refine Kx.stt HB rfl rfl rfl ?_ | refine Kx.st1 HB rfl rfl rfl ?_); clear HB; intro w_ HB)))
   have HJ:=Lib.hid (Jbx.box HOk.out HB.out).swap
   clear HB HOk HC KA KC RA RC
   obtain ⟨ok,KA,KC,RA,RC,HB2⟩:=HJ.out
   have HB:=Lib.hid HB2
   have HOk:=Lib.hid ok
   clear HB2 ok
   obtain ⟨m1,hm1⟩ : ∃ m1:Int,min o.now 1099511627776 = m1:=⟨_,rfl⟩
   obtain ⟨n2,hn2⟩ : ∃ n2:Int,max nw m1 = n2:=⟨_,rfl⟩
   have HN2:Hid ((0 ≤ n2 ∧ n2 ≤ 1099511627776) ∧ nw ≤ n2):=Lib.hid (by have:=HNw.out; omega)
   have HV2:=Lib.hid (HV.out.later HN2.out.2)
   have HTm:Hid (∀ t ∈ ts,0 ≤ t ∧ t ≤ n2):=Lib.hid HV2.out.tm
   clear HV HNw
   obtain ⟨V,hV⟩ : ∃ V,bits BinOp.and IntKind.i64 o.what 3 = V:=⟨_,rfl⟩
   by_cases v1:V = 1
   ·as_aux_lemma =>
     have e1:(V == 1) = true:=beq_iff_eq.2 v1
     have e0:(V != 0) = true:=by rw [v1]; rfl
     clear v1
     go_upto_region 16 with (first | ((with_reducible refine zai HB ?_); clear HB; intro w_ HB) | ((with_reducible refine zab ?_); first | refine Kx.l1 HB rfl rfl ?_ | refine Kx.la HB rfl ?_) | ((with_reducible refine zac ?_); first | refine l1g HB rfl rfl rfl ?_ | refine Kx.lag HB rfl rfl ?_))
     refine Kx.zdl (fun w' => ∃ (s':Jm.St),Jbx w w' g s' [(ga,a.cells g),(b12,o.cells),(b2,cf c)] [⟨A7,c7,2,1,q,Kc.i64s vs⟩,⟨A8,c8,2,1,q,Kc.i64s ts⟩] F) (fun w' => Jbx w w' g s [(ga,a.cells g),(b12,o.cells),(b2,cf c)] [⟨A7,c7,2,1,q,Kc.i64s vs⟩,⟨A8,c8,2,1,q,Kc.i64s ts⟩] F) (fun i => false) (by kernel_rfl) (show Jbx w _ g s _ [⟨A7,c7,2,1,q,Kc.i64s vs⟩,⟨A8,c8,2,1,q,Kc.i64s ts⟩] F from ⟨HOk.out,_,_,_,_,HB.out.drew⟩) ?_
     refine tkS 0 rfl (fun w' q => ⟨s,q⟩) ?_ (hC:=Jbx.bears)
     refine tkS 2 rfl (fun w' q => ⟨s,q⟩) ?_ (hC:=Jbx.bears)
     refine tkS 3 rfl (fun w' q => ⟨s,q⟩) ?_ (hC:=Jbx.bears) (v:=.int .i64 o.n) (hy:=fun w1 ⟨s',ok,KA,KC,RA,RC,hB⟩ => Kx.za7 hB b12 28 rfl o.cells inferInstance (Tryz.isAgg3 _) rfl)
     refine Kx.zgv (ι:=Unit) 1 (fun _ => .pointer (some ⟨g,0,none⟩)) (fun _ w' => Jbx w w' g s [(ga,a.cells g),(b12,o.cells),(b2,cf c)] [⟨A7,c7,2,1,q,Kc.i64s vs⟩,⟨A8,c8,2,1,q,Kc.i64s ts⟩] F) () rfl (fun _ => Jbx.bears) (fun _ w' q => ⟨s,q⟩) ?eFuse1 (fun w hw => zkr hw) ?hFuse1
     case eFuse1 => (intro w hw; go_simp; try (first | (refine ⟨?_,?_⟩ <;> with_reducible rfl) | with_reducible rfl))
     intro _
     refine Kx.zgv (ι:=Unit) 4 (fun _ => .tuple #[]) (fun _ w' => Jbx w w' g (Jm.fuse s o.n) [(ga,a.cells g),(b12,o.cells),(b2,cf c)] [⟨A7,c7,2,1,q,Kc.i64s vs⟩,⟨A8,c8,2,1,q,Kc.i64s ts⟩] F) () rfl (fun _ => Jbx.bears) (fun _ w' q => ⟨_,q⟩) ?eFuse2 (fun w hw => (fuse_x hw o.n HAo.out.n.2).mono fun e w' q => ⟨(),q.1,q.2⟩) ?hFuse2
     case eFuse2 => (intro w hw; go_simp; try (first | (refine ⟨?_,?_⟩ <;> with_reducible rfl) | with_reducible rfl))
     intro _
     refine zak (by kernel_rfl) ?_
     clear HB
     intro w_ HJ_
     have HJn:=Lib.hid HJ_
     obtain ⟨ok,KA,KC,RA,RC,HB2⟩:=HJ_
     have HB:=Lib.hid HB2
     clear HB2 ok HOk
     go_wp2_with (first | ((with_reducible refine zai HB ?_); clear HB; intro w_ HB) | ((with_reducible refine zab ?_); first | refine Kx.l1 HB rfl rfl ?_ | refine Kx.la HB rfl ?_) | ((with_reducible refine zac ?_); first | refine l1g HB rfl rfl rfl ?_ | refine Kx.lag HB rfl rfl ?_))
     go_roundg (gk - 1)
     case measure => omega
     case rel => exact ⟨k + 1,q,a,Jm.fuse s o.n,rs,F,n2,ep,A7,c7,A8,c8,vs,ts,by omega,rfl,rfl,rfl,rfl,by go_num,by omega,HVL,Lib.hid HN2.out.1,Lib.hid (by have:=HI.out.fuse o.n; rwa [show (k + 1) * 8200 = k * 8200 + 8200 by omega]),Lib.hid (HV2.out.fuse o.n),Lib.hid (HJn.out.zbt)⟩
   have f1:(V == 1) = false:=beq_false_of_ne v1
   by_cases v2:V = 2
   ·as_aux_lemma =>
     have e2:(V == 2) = true:=beq_iff_eq.2 v2
     have e0:(V != 0) = true:=by rw [v2]; rfl
     clear v1 v2
     go_upto_region 18 with (first | ((with_reducible refine zai HB ?_); clear HB; intro w_ HB) | ((with_reducible refine zab ?_); first | refine Kx.l1 HB rfl rfl ?_ | refine Kx.la HB rfl ?_) | ((with_reducible refine zac ?_); first | refine l1g HB rfl rfl rfl ?_ | refine Kx.lag HB rfl rfl ?_))
     refine Kx.zdl (fun w' => ∃ (s':Jm.St),Jbx w w' g s' [(ga,a.cells g),(b12,o.cells),(b2,cf c)] [⟨A7,c7,2,1,q,Kc.i64s vs⟩,⟨A8,c8,2,1,q,Kc.i64s ts⟩] F) (fun w' => Jbx w w' g s [(ga,a.cells g),(b12,o.cells),(b2,cf c)] [⟨A7,c7,2,1,q,Kc.i64s vs⟩,⟨A8,c8,2,1,q,Kc.i64s ts⟩] F) (fun i => false) (by kernel_rfl) (show Jbx w _ g s _ [⟨A7,c7,2,1,q,Kc.i64s vs⟩,⟨A8,c8,2,1,q,Kc.i64s ts⟩] F from ⟨HOk.out,_,_,_,_,HB.out.drew⟩) ?_
     refine tkS 0 rfl (fun w' q => ⟨s,q⟩) ?_ (hC:=Jbx.bears)
     refine tkS 2 rfl (fun w' q => ⟨s,q⟩) ?_ (hC:=Jbx.bears)
     refine tkS 3 rfl (fun w' q => ⟨s,q⟩) ?_ (hC:=Jbx.bears) (v:=.int .i64 o.n) (hy:=fun w1 ⟨s',ok,KA,KC,RA,RC,hB⟩ => Kx.za7 hB b12 28 rfl o.cells inferInstance (Tryz.isAgg3 _) rfl)
     refine Kx.zgv (ι:=Unit) 1 (fun _ => .pointer (some ⟨g,0,none⟩)) (fun _ w' => Jbx w w' g s [(ga,a.cells g),(b12,o.cells),(b2,cf c)] [⟨A7,c7,2,1,q,Kc.i64s vs⟩,⟨A8,c8,2,1,q,Kc.i64s ts⟩] F) () rfl (fun _ => Jbx.bears) (fun _ w' q => ⟨s,q⟩) ?eCrash1 (fun w hw => zkr hw) ?hCrash1
     case eCrash1 => (intro w hw; go_simp; try (first | (refine ⟨?_,?_⟩ <;> with_reducible rfl) | with_reducible rfl))
     intro _
     refine Kx.zgv (ι:=Unit) 4 (fun _ => .tuple #[]) (fun _ w' => Jbx w w' g (Jm.crash s o.n) [(ga,a.cells g),(b12,o.cells),(b2,cf c)] [⟨A7,c7,2,1,q,Kc.i64s vs⟩,⟨A8,c8,2,1,q,Kc.i64s ts⟩] F) () rfl (fun _ => Jbx.bears) (fun _ w' q => ⟨_,q⟩) ?eCrash2 (fun w hw => (crash_x hw o.n (Nat.le_trans HSz.out (by decide))).mono fun e w' q => ⟨(),q.1,q.2⟩) ?hCrash2
     case eCrash2 => (intro w hw; go_simp; try (first | (refine ⟨?_,?_⟩ <;> with_reducible rfl) | with_reducible rfl))
     intro _
     refine zak (by kernel_rfl) ?_
     clear HB
     intro w_ HJ_
     have HJn:=Lib.hid HJ_
     obtain ⟨ok,KA,KC,RA,RC,HB2⟩:=HJ_
     have HB:=Lib.hid HB2
     clear HB2 ok HOk
     rcases HI.out.ji.crash o.n with hd | ⟨x,hx,hxn,hd⟩
     ·as_aux_lemma =>
       have HD:=Lib.hid hd
       clear hd
       go_wp2_with (first | ((with_reducible refine zai HB ?_); clear HB; intro w_ HB) | ((with_reducible refine zab ?_); first | refine Kx.l1 HB rfl rfl ?_ | refine Kx.la HB rfl ?_) | ((with_reducible refine zac ?_); first | refine l1g HB rfl rfl rfl ?_ | refine Kx.lag HB rfl rfl ?_))
       go_roundg (gk - 1)
       case measure => omega
       case rel => exact ⟨k + 1,q,a,Jm.crash s o.n,rs,F,n2,ep,A7,c7,A8,c8,vs,ts,by omega,rfl,rfl,rfl,rfl,by go_num,by omega,HVL,Lib.hid HN2.out.1,Lib.hid (by have:=HI.out.crash o.n HD.out; rwa [show (k + 1) * 8200 = k * 8200 + 8200 by omega]),Lib.hid (HV2.out.down rfl),Lib.hid (HJn.out.zbt)⟩
     ·as_aux_lemma =>
       have HD:=Lib.hid hd
       have HXn:=Lib.hid hxn
       clear hd hx hxn
       go_wp2_with (first | ((with_reducible refine zai HB ?_); clear HB; intro w_ HB) | ((with_reducible refine zab ?_); first | refine Kx.l1 HB rfl rfl ?_ | refine Kx.la HB rfl ?_) | ((with_reducible refine zac ?_); first | refine l1g HB rfl rfl rfl ?_ | refine Kx.lag HB rfl rfl ?_))
       go_roundg (gk - 1)
       case measure => omega
       case rel => exact ⟨k + 1,q,a,Jm.crash s o.n,rs ++ [x],F,n2,ep,A7,c7,A8,c8,vs,ts,by omega,rfl,rfl,rfl,rfl,by go_num,by omega,HVL,Lib.hid HN2.out.1,Lib.hid (by have:=HI.out.crash o.n HD.out; rwa [show (k + 1) * 8200 = k * 8200 + 8200 by omega]),Lib.hid (by rw [zfn]; exact HV2.out.lost HXn.out rfl),Lib.hid (HJn.out.zbt)⟩
   have f2:(V == 2) = false:=beq_false_of_ne v2
   by_cases v3:V = 3
   ·as_aux_lemma =>
     have e3:(V == 3) = true:=beq_iff_eq.2 v3
     have e0:(V != 0) = true:=by rw [v3]; rfl
     have HRs:=Lib.hid (zq5 HJ.out HI.out.inv xs N (by rw [HI.out.c]; exact fun q hq => .inr (by rw [List.mem_singleton.1 hq]; exact HI.out.more _ HC1.out.2.2.2.2.2.2)) (by rw [HI.out.c]; exact HC1.out.2.2.2.2.2.1) (by rw [HI.out.c]; exact HC1.out.2.2.2.2.1) (by rw [HI.out.c]; exact HC1.out.2.2.2.1) rs HI.out.ji (Nat.le_trans HSz.out (by decide)) HT.out.1 HT.out.2 n2)
     clear v1 v2 v3
     go_wp2_with (first | (go_at_call 12; fail) | (first | ((with_reducible refine zai HB ?_); clear HB; intro w_ HB) | ((with_reducible refine zab ?_); first | refine Kx.l1 HB rfl rfl ?_ | refine Kx.la HB rfl ?_) | ((with_reducible refine zac ?_); first | refine l1g HB rfl rfl rfl ?_ | refine Kx.lag HB rfl rfl ?_)))
     refine HRs.out.mono ?_
     rintro e w3 ⟨a',F',er,rfl,HJ3,hst⟩
     have HSt:=Lib.hid hst
     obtain ⟨ok3,KA3,KC3,RA3,RC3,HB3⟩:=HJ3
     have HOk3:=Lib.hid ok3
     clear HB hst
     have HB:=Lib.hid HB3
     clear HB3 ok3 HRs HJ
     obtain ⟨ep2,hep2⟩ : ∃ ep2:Int,max ep a'.e = ep2:=⟨_,rfl⟩
     have HW2:Hid (WInv vs ts ep2 n2 (KK (zp N) rs) a' (Jm.opn s).1):=Lib.hid (by rw [←hep2]; exact HV2.out.rst HSt.out)
     go_upto_region 22 with (first | (go_at_call 13; refine (zle (ga:=ga) (a:=a') (g:=g) HB.out).mono ?_; rintro e w_ ⟨rfl,hb_⟩; replace HB:=Lib.hid hb_; clear hb_) | (first | ((with_reducible refine zai HB ?_); clear HB; intro w_ HB) | ((with_reducible refine zaf (d:=some 16) ?_); (first | refine boxa HB rfl ?_ | refine boxt HB rfl rfl ?_ | refine box1 HB rfl rfl ?_); clear HB; intro b16 w_ HB; refine Kx.fr ?_) | ((with_reducible refine zaa (d:=some 16) ?_); (first | refine ala HB ?_ | refine al1 HB ?_); clear HB; intro b16 w_ HB; refine Kx.fr ?_) | ((with_reducible refine zaf ?_); (first | refine boxa HB rfl ?_ | refine boxt HB rfl rfl ?_ | refine box1 HB rfl rfl ?_); clear HB; intro b_ w_ HB; refine Kx.fr ?_) | ((with_reducible refine zaa ?_); (first | refine ala HB ?_ | refine al1 HB ?_); clear HB; intro b_ w_ HB; refine Kx.fr ?_) | ((with_reducible refine zab ?_); first | refine Kx.l1 HB rfl rfl ?_ | refine Kx.la HB rfl ?_ | refine Kx.lo HB rfl HC.out ?_) | ((with_reducible refine zac ?_); first | refine l1g HB rfl rfl rfl ?_ | refine Kx.lag HB rfl rfl ?_ | refine Kx.log HB rfl HC.out rfl ?_) | ((with_reducible refine zae ?_); (first | refine stwa HB rfl rfl ?_ | refine sta HB rfl rfl ?_ | refine Kx.stc HB rfl rfl ?_ | refine Kx.stt HB rfl rfl rfl ?_ | refine Kx.st1 HB rfl rfl rfl ?_); clear HB; intro w_ HB)))
     go_wp2_with (first | ((with_reducible refine zai HB ?_); clear HB; intro w_ HB) | ((with_reducible refine zab ?_); first | refine Kx.l1 HB rfl rfl ?_ | refine Kx.la HB rfl ?_) | ((with_reducible refine zac ?_); first | refine l1g HB rfl rfl rfl ?_ | refine Kx.lag HB rfl rfl ?_))
     go_roundg (gk - 1)
     case measure => omega
     case rel => exact ⟨k + 1,q,a',(Jm.opn s).1,rs,F',n2,ep2,A7,c7,A8,c8,vs,ts,by omega,rfl,rfl,rfl,rfl,by go_num,by omega,HVL,Lib.hid HN2.out.1,Lib.hid (by have:=HI.out.rst HSt.out; rwa [show (k + 1) * 8200 = k * 8200 + 8200 by omega]),Lib.hid (HW2.out),Lib.hid (Jbx.zbt (p:=(ga,a'.cells g)) ⟨HOk3.out,_,_,_,_,HB.out.tail⟩)⟩
   have f3:(V == 3) = false:=beq_false_of_ne v3
   by_cases v0:V = 0
   case neg =>
    as_aux_lemma =>
     have e0:(V != 0) = true:=bne_iff_ne.2 v0
     have HLi:Hid (LI (zp N) 1 c1 (k * 8200 + 8200) F1 F rs a s):=Lib.hid ⟨HI.out.inv,HI.out.ji,Nat.le_trans HI.out.sz (Nat.le_add_right ..),HI.out.c,HI.out.more⟩
     clear v0 v1 v2 v3
     go_wp2_with (first | ((with_reducible refine zai HB ?_); clear HB; intro w_ HB) | ((with_reducible refine zab ?_); first | refine Kx.l1 HB rfl rfl ?_ | refine Kx.la HB rfl ?_) | ((with_reducible refine zac ?_); first | refine l1g HB rfl rfl rfl ?_ | refine Kx.lag HB rfl rfl ?_))
     go_roundg (gk - 1)
     case measure => omega
     case rel => exact ⟨k + 1,q,a,s,rs,F,n2,ep,A7,c7,A8,c8,vs,ts,by omega,rfl,rfl,rfl,rfl,by go_num,by omega,HVL,Lib.hid HN2.out.1,Lib.hid (by have:=HLi.out; rwa [show (k + 1) * 8200 = k * 8200 + 8200 by omega]),Lib.hid (HV2.out),Lib.hid (Jbx.zbt (p:=(ga,a.cells g)) (q:=(b12,o.cells)) ⟨HOk.out,_,_,_,_,HB.out⟩)⟩
   have e0:(V != 0) = false:=by rw [v0]; rfl
   clear v0 v1 v2 v3
   obtain ⟨R,hR⟩ : ∃ R,handle a s o.m.ms o.m.lo n2 = R:=⟨_,rfl⟩
   obtain ⟨rs',hst⟩:=zqd (now:=n2) HI.out.inv HI.out.ji (Mg.msOk HAo.out.m) HWi.out
   rw [hR] at hst
   have HLi:=Lib.hid (HI.out.handle (show Pm.I o.m.ms.b from HAo.out.m.b) hst)
   have hls:=znt HV2.out hst
   have hcc1:a.c.l + a.c.m = c.l + c.m:=by rw [HI.out.c,HC1.out.1,HC1.out.2.1]
   rw [hcc1] at hls
   have HCl:Hid (Calls Tryz.prog 14 #[.pointer (some ⟨ga,0,none⟩),.agg o.m.cells.toArray,.int .i64 n2] w_ fun e w' => Outs w w' ga g [(b12,o.cells),(b2,cf c)] [⟨A7,c7,2,1,q,Kc.i64s vs⟩,⟨A8,c8,2,1,q,Kc.i64s ts⟩] F R e):=Lib.hid (by
    rw [←hR]
    exact zge HJ.out HI.out.inv.ok o.m.ms o.m.lo n2 (Mg.msOk HAo.out.m) HWi.out HT.out.1 HT.out.2 (Nat.le_trans HSz.out (by decide)))
   have HMc:Hid (o.m.ms.co = o.m.co):=Lib.hid rfl
   clear hR hst hcc1 HI HV2 HWi HSz HC1 HT HAo
   obtain ⟨a1,s1,o1⟩:=R
   go_wp2_with (first | (go_at_call 14; fail) | (first | ((with_reducible refine zai HB ?_); clear HB; intro w_ HB) | ((with_reducible refine zab ?_); first | refine Kx.l1 HB rfl rfl ?_ | refine Kx.la HB rfl ?_) | ((with_reducible refine zac ?_); first | refine l1g HB rfl rfl rfl ?_ | refine Kx.lag HB rfl rfl ?_)))
   refine HCl.out.mono ?_
   clear HB HJ HOk
   cases o1 with
   | none =>
     as_aux_lemma =>
      rintro e w3 ⟨rfl,HJ3⟩
      have HLs:=Lib.hid (hls.1 rfl)
      have HJn:=Lib.hid HJ3
      obtain ⟨ok3,KA3,KC3,RA3,RC3,HB3⟩:=HJ3
      have HB:=Lib.hid HB3
      clear HB3 ok3 HCl hls
      obtain ⟨gq,rfl⟩ : ∃ q,q = gk:=⟨_,rfl⟩
      go_wp2_with (first | ((with_reducible refine zai HB ?_); clear HB; intro w_ HB) | ((with_reducible refine zab ?_); first | refine Kx.l1 HB rfl rfl ?_ | refine Kx.la HB rfl ?_) | ((with_reducible refine zac ?_); first | refine l1g HB rfl rfl rfl ?_ | refine Kx.lag HB rfl rfl ?_))
      go_loopg [7,8,10,18] 1 (fun gh ox tx ex kx wr => gh = 1 ∧ ox = .slice A7 q c7 ∧ tx = .slice A8 q c8 ∧ ex = .int .i64 ep ∧ kx = .int .i64 0 ∧ Hid (Jbx w wr g s1 [(ga,a1.cells g),(b12,o.cells),(b2,cf c)] [⟨A7,c7,2,1,q,Kc.i64s vs⟩,⟨A8,c8,2,1,q,Kc.i64s ts⟩] F))
      case atStart => exact ⟨rfl,rfl,rfl,rfl,rfl,HJn⟩
      case round =>
       clear HB HJn
       obtain ⟨-,rfl,rfl,rfl,rfl,HJn⟩:=hrel
       obtain ⟨ok3,KA3,KC3,RA3,RC3,HB3⟩:=HJn.out
       have HB:=Lib.hid HB3
       clear HB3 ok3
       go_wp2_with (first | ((with_reducible refine zai HB ?_); clear HB; intro w_ HB) | ((with_reducible refine zab ?_); first | refine Kx.l1 HB rfl rfl ?_ | refine Kx.la HB rfl ?_) | ((with_reducible refine zac ?_); first | refine l1g HB rfl rfl rfl ?_ | refine Kx.lag HB rfl rfl ?_))
       go_roundg (gq - 1)
       case measure => omega
       case rel => exact ⟨k + 1,q,a1,s1,rs',F,n2,ep,A7,c7,A8,c8,vs,ts,by omega,rfl,rfl,rfl,rfl,by go_num,by omega,HVL,Lib.hid HN2.out.1,Lib.hid (by have:=HLi.out; rwa [show (k + 1) * 8200 = k * 8200 + 8200 by omega]),Lib.hid (HLs.out),Lib.hid (HJn.out.zbt)⟩
   | some q =>
     obtain ⟨x,lo⟩:=q
     rintro e w3 ⟨bx,rfl,HJ3⟩
     have HLs:=Lib.hid (hls.2 x lo rfl)
     have HJn:=Lib.hid HJ3
     obtain ⟨ok3,KA3,KC3,RA3,RC3,HB3⟩:=HJ3
     have HB:=Lib.hid HB3
     clear HB3 ok3 HCl hls
     obtain ⟨gq,rfl⟩ : ∃ q,q = gk:=⟨_,rfl⟩
     go_wp2_with (first | ((with_reducible refine zai HB ?_); clear HB; intro w_ HB) | ((with_reducible refine zab ?_); first | refine Kx.l1 HB rfl rfl ?_ | refine Kx.la HB rfl ?_) | ((with_reducible refine zac ?_); first | refine l1g HB rfl rfl rfl ?_ | refine Kx.lag HB rfl rfl ?_))
     go_loopg [7,8,10,18] 2 (fun gh ox tx ex kx wr => ∃ (q2:Nat) (ep2:Int) (A7':Option Addr) (c7':Nat) (A8':Option Addr) (c8':Nat) (vs2 ts2:List Int),ox = .slice A7' q2 c7' ∧ tx = .slice A8' q2 c8' ∧ ex = .int .i64 ep2 ∧ Hid (vs2.length = q2 ∧ ts2.length = q2) ∧ Hid (Jbx w wr g s1 [(bx,mvs x lo),(ga,a1.cells g),(b12,o.cells),(b2,cf c)] [⟨A7',c7',2,1,q2,Kc.i64s vs2⟩,⟨A8',c8',2,1,q2,Kc.i64s ts2⟩] F) ∧ ((gh = 2 ∧ kx = .int .i64 0 ∧ q2 = q ∧ ep2 = ep ∧ vs2 = vs ∧ ts2 = ts) ∨ (gh = 1 ∧ kx = .int .i64 1 ∧ q2 ≤ q + 1 ∧ Hid (WInv vs2 ts2 ep2 n2 (KK (zp N) rs') a1 s1))))
     case atStart => exact ⟨q,ep,A7,c7,A8,c8,vs,ts,rfl,rfl,rfl,HVL,HJn,.inl ⟨rfl,rfl,rfl,rfl,rfl,rfl⟩⟩
     case round =>
      clear HB HJn HVL
      obtain ⟨q2,ep2,A7',c7',A8',c8',vs2,ts2,rfl,rfl,rfl,HVL,HJn,hph⟩:=hrel
      obtain ⟨ok3,KA3,KC3,RA3,RC3,HB3⟩:=HJn.out
      have HB:=Lib.hid HB3
      have HOk3:=Lib.hid ok3
      clear HB3 ok3
      rcases hph with ⟨hg1,rfl,rfl,rfl,rfl,rfl⟩ | ⟨hg1,rfl,hq2,HFin⟩
      ·rcases HLs.out with ⟨k11,k1,hwi⟩ | ⟨kn,k5,hwi⟩ | ⟨k5,hle5,hwi⟩ | ⟨k5,hlt5,hno,hwi⟩
       ·as_aux_lemma =>
         have HFin:=Lib.hid hwi
         have t1:(x.k == 11) = true:=beq_iff_eq.2 k11
         have t2:(x.co == 1) = true:=beq_iff_eq.2 k1
         have t3:(x.k != 5) = true:=by rw [k11]; rfl
         clear hwi HLs k11 k1
         have HLn:Hid ((vs2 ++ [x.e]).length = q2 + 1 ∧ (ts2 ++ [n2]).length = q2 + 1):=Lib.hid ⟨by rw [List.length_append,HVL.out.1]; rfl,by rw [List.length_append,HVL.out.2]; rfl⟩
         clear HVL
         go_upto_region 30 with (first | (at_builtin; first | (refine Kx.zen HB rfl _ _ 30 rfl _ _ _ rfl 8 2 1 _ rfl Tryz.underlying30 (by kernel_rfl) (by decide) _ _ _ rfl _ ([Value.int .i64 x.e]) (HB.out.rd) (by (first | rfl | (intro u hu; rw [List.mem_singleton] at hu; subst hu; rfl) | (unfold maxLen; omega) | omega)) (by (first | rfl | (intro u hu; rw [List.mem_singleton] at hu; subst hu; rfl) | (unfold maxLen; omega) | omega)) (by (first | rfl | (intro u hu; rw [List.mem_singleton] at hu; subst hu; rfl) | (unfold maxLen; omega) | omega)) (by (first | rfl | (intro u hu; rw [List.mem_singleton] at hu; subst hu; rfl) | (unfold maxLen; omega) | omega)) ?_; clear HB; intro A_ c_ w_ hl_ hm_ HB; refine Kx.framed ?_ (by simp only [Act.put,List.setIfInBounds_toArray,List.set_cons_succ,List.set_cons_zero] <;> rfl)) | (refine Kx.zd6 HB rfl _ _ 30 rfl rfl 8 2 1 Tryz.underlying30 (by kernel_rfl) (by decide) _ _ _ rfl _ ([Value.int .i64 x.e]) (HB.out.rd) (by (first | rfl | (intro u hu; rw [List.mem_singleton] at hu; subst hu; rfl) | (unfold maxLen; omega) | omega)) (by (first | rfl | (intro u hu; rw [List.mem_singleton] at hu; subst hu; rfl) | (unfold maxLen; omega) | omega)) (by (first | rfl | (intro u hu; rw [List.mem_singleton] at hu; subst hu; rfl) | (unfold maxLen; omega) | omega)) (by (first | rfl | (intro u hu; rw [List.mem_singleton] at hu; subst hu; rfl) | (unfold maxLen; omega) | omega)) ?_; clear HB; intro A_ c_ w_ hl_ hm_ HB; refine Kx.framed ?_ (by simp only [Act.put,List.setIfInBounds_toArray,List.set_cons_succ,List.set_cons_zero] <;> rfl))) | (first | ((with_reducible refine zai HB ?_); clear HB; intro w_ HB) | ((with_reducible refine zab ?_); first | refine Kx.l1 HB rfl rfl ?_ | refine Kx.la HB rfl ?_) | ((with_reducible refine zac ?_); first | refine l1g HB rfl rfl rfl ?_ | refine Kx.lag HB rfl rfl ?_)))
         obtain ⟨Aa,hAa⟩ : ∃ Aa,Aa = A_:=⟨_,rfl⟩
         obtain ⟨ca,hca⟩ : ∃ ca,ca = c_:=⟨_,rfl⟩
         rw [←hAa,←hca] at HB ⊢
         clear hAa hca
         go_upto_region 31 with (first | (at_builtin; first | (refine Kx.zen HB rfl _ _ 30 rfl _ _ _ rfl 8 2 1 _ rfl Tryz.underlying30 (by kernel_rfl) (by decide) _ _ _ rfl _ ([Value.int .i64 n2]) (HB.out.rd) (by (first | rfl | (intro u hu; rw [List.mem_singleton] at hu; subst hu; rfl) | (unfold maxLen; omega) | omega)) (by (first | rfl | (intro u hu; rw [List.mem_singleton] at hu; subst hu; rfl) | (unfold maxLen; omega) | omega)) (by (first | rfl | (intro u hu; rw [List.mem_singleton] at hu; subst hu; rfl) | (unfold maxLen; omega) | omega)) (by (first | rfl | (intro u hu; rw [List.mem_singleton] at hu; subst hu; rfl) | (unfold maxLen; omega) | omega)) ?_; clear HB; intro A_ c_ w_ hl_ hm_ HB; refine Kx.framed ?_ (by simp only [Act.put,List.setIfInBounds_toArray,List.set_cons_succ,List.set_cons_zero] <;> rfl)) | (refine Kx.zd6 HB rfl _ _ 30 rfl rfl 8 2 1 Tryz.underlying30 (by kernel_rfl) (by decide) _ _ _ rfl _ ([Value.int .i64 n2]) (HB.out.rd) (by (first | rfl | (intro u hu; rw [List.mem_singleton] at hu; subst hu; rfl) | (unfold maxLen; omega) | omega)) (by (first | rfl | (intro u hu; rw [List.mem_singleton] at hu; subst hu; rfl) | (unfold maxLen; omega) | omega)) (by (first | rfl | (intro u hu; rw [List.mem_singleton] at hu; subst hu; rfl) | (unfold maxLen; omega) | omega)) (by (first | rfl | (intro u hu; rw [List.mem_singleton] at hu; subst hu; rfl) | (unfold maxLen; omega) | omega)) ?_; clear HB; intro A_ c_ w_ hl_ hm_ HB; refine Kx.framed ?_ (by simp only [Act.put,List.setIfInBounds_toArray,List.set_cons_succ,List.set_cons_zero] <;> rfl))) | (first | ((with_reducible refine zai HB ?_); clear HB; intro w_ HB) | ((with_reducible refine zab ?_); first | refine Kx.l1 HB rfl rfl ?_ | refine Kx.la HB rfl ?_) | ((with_reducible refine zac ?_); first | refine l1g HB rfl rfl rfl ?_ | refine Kx.lag HB rfl rfl ?_)))
         go_wp2_with (first | ((with_reducible refine zai HB ?_); clear HB; intro w_ HB) | ((with_reducible refine zab ?_); first | refine Kx.l1 HB rfl rfl ?_ | refine Kx.la HB rfl ?_) | ((with_reducible refine zac ?_); first | refine l1g HB rfl rfl rfl ?_ | refine Kx.lag HB rfl rfl ?_))
         go_roundg 1
         case measure => omega
         case rel => exact ⟨q2 + 1,ep2,Aa,ca,A_,c_,vs2 ++ [x.e],ts2 ++ [n2],rfl,rfl,rfl,HLn,Lib.hid ⟨HOk3.out,_,_,_,_,by rw [znc,znc]; exact ((HB.out.tail.tail.front (.tail _ (.head _))).front (.tail _ (.tail _ (.tail _ (.head _))))).front (.tail _ (.tail _ (.tail _ (.head _))))⟩,.inr ⟨rfl,rfl,Nat.le_refl _,HFin⟩⟩
       ·as_aux_lemma =>
         have HFin:=Lib.hid hwi
         have t3:(x.k != 5) = true:=bne_iff_ne.2 k5
         clear hwi HLs k5
         by_cases k11:x.k = 11
         ·as_aux_lemma =>
           have t1:(x.k == 11) = true:=beq_iff_eq.2 k11
           have t2:(x.co == 1) = false:=beq_false_of_ne (fun q => kn ⟨k11,q⟩)
           clear kn k11
           go_wp2_with (first | ((with_reducible refine zai HB ?_); clear HB; intro w_ HB) | ((with_reducible refine zab ?_); first | refine Kx.l1 HB rfl rfl ?_ | refine Kx.la HB rfl ?_) | ((with_reducible refine zac ?_); first | refine l1g HB rfl rfl rfl ?_ | refine Kx.lag HB rfl rfl ?_))
           go_roundg 1
           case measure => omega
           case rel => exact ⟨_,_,_,_,_,_,_,_,rfl,rfl,rfl,HVL,HJn,.inr ⟨rfl,rfl,Nat.le_succ _,HFin⟩⟩
         ·as_aux_lemma =>
           have t1:(x.k == 11) = false:=beq_false_of_ne k11
           clear kn k11
           go_wp2_with (first | ((with_reducible refine zai HB ?_); clear HB; intro w_ HB) | ((with_reducible refine zab ?_); first | refine Kx.l1 HB rfl rfl ?_ | refine Kx.la HB rfl ?_) | ((with_reducible refine zac ?_); first | refine l1g HB rfl rfl rfl ?_ | refine Kx.lag HB rfl rfl ?_))
           go_roundg 1
           case measure => omega
           case rel => exact ⟨_,_,_,_,_,_,_,_,rfl,rfl,rfl,HVL,HJn,.inr ⟨rfl,rfl,Nat.le_succ _,HFin⟩⟩
       ·as_aux_lemma =>
         have HFin:=Lib.hid hwi
         have t1:(x.k == 11) = false:=by rw [k5]; rfl
         have t3:(x.k != 5) = false:=by rw [k5]; rfl
         have t4:decide (x.e ≤ ep2) = true:=decide_eq_true hle5
         clear hwi HLs k5 hle5
         go_wp2_with (first | ((with_reducible refine zai HB ?_); clear HB; intro w_ HB) | ((with_reducible refine zab ?_); first | refine Kx.l1 HB rfl rfl ?_ | refine Kx.la HB rfl ?_) | ((with_reducible refine zac ?_); first | refine l1g HB rfl rfl rfl ?_ | refine Kx.lag HB rfl rfl ?_))
         go_roundg 1
         case measure => omega
         case rel => exact ⟨_,_,_,_,_,_,_,_,rfl,rfl,rfl,HVL,HJn,.inr ⟨rfl,rfl,Nat.le_succ _,HFin⟩⟩
       ·as_aux_lemma =>
         have HFin:=Lib.hid hwi
         have HNo:=Lib.hid hno
         have t1:(x.k == 11) = false:=by rw [k5]; rfl
         have t3:(x.k != 5) = false:=by rw [k5]; rfl
         have t4:decide (x.e ≤ ep2) = false:=decide_eq_false (by omega)
         clear hwi HLs k5 hlt5 hno
         go_wp2_with (first | ((with_reducible refine zai HB ?_); clear HB; intro w_ HB) | ((with_reducible refine zab ?_); first | refine Kx.l1 HB rfl rfl ?_ | refine Kx.la HB rfl ?_) | ((with_reducible refine zac ?_); first | refine l1g HB rfl rfl rfl ?_ | refine Kx.lag HB rfl rfl ?_))
         obtain ⟨gr,rfl⟩ : ∃ q,q = gk:=⟨_,rfl⟩
         go_loopg [19] q2 (fun gh jx wr => ∃ j:Nat,gh + j = q2 ∧ jx = .int .i64 (j:Int) ∧ Hid (Jbx w wr g s1 [(bx,mvs x lo),(ga,a1.cells g),(b12,o.cells),(b2,cf c)] [⟨A7',c7',2,1,q2,Kc.i64s vs2⟩,⟨A8',c8',2,1,q2,Kc.i64s ts2⟩] F))
         case atStart => exact ⟨0,by omega,rfl,HJn⟩
         case round =>
          clear HB HJn
          obtain ⟨j,hj,rfl,HJn⟩:=hrel
          obtain ⟨ok3,KA3,KC3,RA3,RC3,HB3⟩:=HJn.out
          have HB:=Lib.hid HB3
          clear HB3 ok3
          by_cases hjq:j < q2
          ·have d5:(j:Int) < (q2:Int):=by omega
           obtain ⟨v,hv⟩ : ∃ v,vs2[j]? = some v:=⟨vs2[j]'(by rw [HVL.out.1]; exact hjq),List.getElem?_eq_getElem _⟩
           obtain ⟨t,ht⟩ : ∃ t,ts2[j]? = some t:=⟨ts2[j]'(by rw [HVL.out.2]; exact hjq),List.getElem?_eq_getElem _⟩
           have htm:=HTm.out t (List.mem_of_getElem? ht)
           have hno2:=HNo.out j v t hv ht
           obtain ⟨ad7,rfl,-,hc7⟩:=Rd.num (HB.out.rowRd (A:=A7')) (k:=j) (by rw [HVL.out.1]; exact hjq)
           obtain ⟨ad8,rfl,-,hc8⟩:=Rd.num (HB.out.rowRd (A:=A8')) (k:=j) (by rw [HVL.out.2]; exact hjq)
           rw [show vs2.getD j 0 = v by rw [List.getD_eq_getElem?_getD,hv]; rfl] at hc7
           rw [show ts2.getD j 0 = t by rw [List.getD_eq_getElem?_getD,ht]; rfl] at hc8
           have t6:IntKind.i64.wrap (n2 - t) = n2 - t:=by have:=HN2.out; rw [IntKind.wrap_i64]; omega
           have t7:IntKind.i64.wrap (c.l + c.m) = c.l + c.m:=by rw [IntKind.wrap_i64]; omega
           clear hv ht htm
           by_cases y1:ep2 ≤ v
           case neg =>
            as_aux_lemma =>
             have d6:decide (ep2 ≤ v) = false:=decide_eq_false y1
             clear y1 hno2
             go_upto_region 35 with (first | ((with_reducible refine zai HB ?_); clear HB; intro w_ HB) | ((with_reducible refine zab ?_); first | refine Kx.l1 HB rfl rfl ?_ | refine Kx.la HB rfl ?_) | ((with_reducible refine zac ?_); first | refine l1g HB rfl rfl rfl ?_ | refine Kx.lag HB rfl rfl ?_))
             try simp only [List.append_eq,List.cons_append,List.nil_append]
             have kc3:=HB.out.cell (b:=bx) (cs:=mvs x lo) (j:=3) (by repeat (first | exact List.Mem.head _ | apply List.Mem.tail)) rfl
             have kl:=HB.out.cell (b:=b2) (cs:=cf c) (j:=11) (by repeat (first | exact List.Mem.head _ | apply List.Mem.tail)) rfl
             have km:=HB.out.cell (b:=b2) (cs:=cf c) (j:=12) (by repeat (first | exact List.Mem.head _ | apply List.Mem.tail)) rfl
             have ko:=HB.out.cell (b:=b12) (cs:=o.cells) (j:=10) (by repeat (first | exact List.Mem.head _ | apply List.Mem.tail)) rfl
             go_quiet (fail)
             replace HB:=Lib.hid (HB.out.call (zav (Below.refl _ _) nq))
             clear kc3 kl km ko hc7 hc8
             go_wp2_with (first | ((with_reducible refine zai HB ?_); clear HB; intro w_ HB) | ((with_reducible refine zab ?_); first | refine Kx.l1 HB rfl rfl ?_ | refine Kx.la HB rfl ?_) | ((with_reducible refine zac ?_); first | refine l1g HB rfl rfl rfl ?_ | refine Kx.lag HB rfl rfl ?_))
             go_roundg (gk - 1)
             case measure => omega
             case rel => exact ⟨j + 1,by omega,by go_num,Lib.hid ⟨HOk3.out,_,_,_,_,HB.out⟩⟩
           have d6:decide (ep2 ≤ v) = true:=decide_eq_true y1
           by_cases y2:v < x.e
           case neg =>
            as_aux_lemma =>
             have d7:decide (v < x.e) = false:=decide_eq_false y2
             clear y1 y2 hno2
             go_upto_region 35 with (first | ((with_reducible refine zai HB ?_); clear HB; intro w_ HB) | ((with_reducible refine zab ?_); first | refine Kx.l1 HB rfl rfl ?_ | refine Kx.la HB rfl ?_) | ((with_reducible refine zac ?_); first | refine l1g HB rfl rfl rfl ?_ | refine Kx.lag HB rfl rfl ?_))
             try simp only [List.append_eq,List.cons_append,List.nil_append]
             have kc3:=HB.out.cell (b:=bx) (cs:=mvs x lo) (j:=3) (by repeat (first | exact List.Mem.head _ | apply List.Mem.tail)) rfl
             have kl:=HB.out.cell (b:=b2) (cs:=cf c) (j:=11) (by repeat (first | exact List.Mem.head _ | apply List.Mem.tail)) rfl
             have km:=HB.out.cell (b:=b2) (cs:=cf c) (j:=12) (by repeat (first | exact List.Mem.head _ | apply List.Mem.tail)) rfl
             have ko:=HB.out.cell (b:=b12) (cs:=o.cells) (j:=10) (by repeat (first | exact List.Mem.head _ | apply List.Mem.tail)) rfl
             go_quiet (fail)
             replace HB:=Lib.hid (HB.out.call (zav (Below.refl _ _) nq))
             clear kc3 kl km ko hc7 hc8
             go_wp2_with (first | ((with_reducible refine zai HB ?_); clear HB; intro w_ HB) | ((with_reducible refine zab ?_); first | refine Kx.l1 HB rfl rfl ?_ | refine Kx.la HB rfl ?_) | ((with_reducible refine zac ?_); first | refine l1g HB rfl rfl rfl ?_ | refine Kx.lag HB rfl rfl ?_))
             go_roundg (gk - 1)
             case measure => omega
             case rel => exact ⟨j + 1,by omega,by go_num,Lib.hid ⟨HOk3.out,_,_,_,_,HB.out⟩⟩
           have d7:decide (v < x.e) = true:=decide_eq_true y2
           by_cases y3:n2 - t < c.l + c.m
           case neg =>
            as_aux_lemma =>
             have d8:decide (n2 - t < c.l + c.m) = false:=decide_eq_false y3
             clear y1 y2 y3 hno2
             go_upto_region 35 with (first | ((with_reducible refine zai HB ?_); clear HB; intro w_ HB) | ((with_reducible refine zab ?_); first | refine Kx.l1 HB rfl rfl ?_ | refine Kx.la HB rfl ?_) | ((with_reducible refine zac ?_); first | refine l1g HB rfl rfl rfl ?_ | refine Kx.lag HB rfl rfl ?_))
             try simp only [List.append_eq,List.cons_append,List.nil_append]
             have kc3:=HB.out.cell (b:=bx) (cs:=mvs x lo) (j:=3) (by repeat (first | exact List.Mem.head _ | apply List.Mem.tail)) rfl
             have kl:=HB.out.cell (b:=b2) (cs:=cf c) (j:=11) (by repeat (first | exact List.Mem.head _ | apply List.Mem.tail)) rfl
             have km:=HB.out.cell (b:=b2) (cs:=cf c) (j:=12) (by repeat (first | exact List.Mem.head _ | apply List.Mem.tail)) rfl
             have ko:=HB.out.cell (b:=b12) (cs:=o.cells) (j:=10) (by repeat (first | exact List.Mem.head _ | apply List.Mem.tail)) rfl
             go_quiet (fail)
             replace HB:=Lib.hid (HB.out.call (zav (Below.refl _ _) nq))
             clear kc3 kl km ko hc7 hc8
             go_wp2_with (first | ((with_reducible refine zai HB ?_); clear HB; intro w_ HB) | ((with_reducible refine zab ?_); first | refine Kx.l1 HB rfl rfl ?_ | refine Kx.la HB rfl ?_) | ((with_reducible refine zac ?_); first | refine l1g HB rfl rfl rfl ?_ | refine Kx.lag HB rfl rfl ?_))
             go_roundg (gk - 1)
             case measure => omega
             case rel => exact ⟨j + 1,by omega,by go_num,Lib.hid ⟨HOk3.out,_,_,_,_,HB.out⟩⟩
           have d8:decide (n2 - t < c.l + c.m) = true:=decide_eq_true y3
           have hco:o.m.co = 1:=hno2 y1 y2 y3
           have d9:(o.m.co != 1) = false:=by rw [hco]; rfl
           clear y1 y2 y3 hno2 hco
           go_upto_region 35 with (first | ((with_reducible refine zai HB ?_); clear HB; intro w_ HB) | ((with_reducible refine zab ?_); first | refine Kx.l1 HB rfl rfl ?_ | refine Kx.la HB rfl ?_) | ((with_reducible refine zac ?_); first | refine l1g HB rfl rfl rfl ?_ | refine Kx.lag HB rfl rfl ?_))
           try simp only [List.append_eq,List.cons_append,List.nil_append]
           have kc3:=HB.out.cell (b:=bx) (cs:=mvs x lo) (j:=3) (by repeat (first | exact List.Mem.head _ | apply List.Mem.tail)) rfl
           have kl:=HB.out.cell (b:=b2) (cs:=cf c) (j:=11) (by repeat (first | exact List.Mem.head _ | apply List.Mem.tail)) rfl
           have km:=HB.out.cell (b:=b2) (cs:=cf c) (j:=12) (by repeat (first | exact List.Mem.head _ | apply List.Mem.tail)) rfl
           have ko:=HB.out.cell (b:=b12) (cs:=o.cells) (j:=10) (by repeat (first | exact List.Mem.head _ | apply List.Mem.tail)) rfl
           go_quiet (fail)
           replace HB:=Lib.hid (HB.out.call (zav (Below.refl _ _) nq))
           clear kc3 kl km ko hc7 hc8
           go_wp2_with (first | ((with_reducible refine zai HB ?_); clear HB; intro w_ HB) | ((with_reducible refine zab ?_); first | refine Kx.l1 HB rfl rfl ?_ | refine Kx.la HB rfl ?_) | ((with_reducible refine zac ?_); first | refine l1g HB rfl rfl rfl ?_ | refine Kx.lag HB rfl rfl ?_))
           go_roundg (gk - 1)
           case measure => omega
           case rel => exact ⟨j + 1,by omega,by go_num,Lib.hid ⟨HOk3.out,_,_,_,_,HB.out⟩⟩
          ·as_aux_lemma =>
            obtain rfl:j = q2:=by omega
            have d5:decide ((j:Int) < (j:Int)) = false:=by simp
            clear HNo HTm
            go_wp2_with (first | ((with_reducible refine zai HB ?_); clear HB; intro w_ HB) | ((with_reducible refine zab ?_); first | refine Kx.l1 HB rfl rfl ?_ | refine Kx.la HB rfl ?_) | ((with_reducible refine zac ?_); first | refine l1g HB rfl rfl rfl ?_ | refine Kx.lag HB rfl rfl ?_))
            go_roundg 1
            case measure => omega
            case rel => exact ⟨_,_,_,_,_,_,_,_,rfl,rfl,rfl,HVL,Lib.hid ⟨HOk3.out,_,_,_,_,HB.out⟩,.inr ⟨rfl,rfl,Nat.le_succ _,HFin⟩⟩
      ·as_aux_lemma =>
        clear HLs
        go_wp2_with (first | ((with_reducible refine zai HB ?_); clear HB; intro w_ HB) | ((with_reducible refine zab ?_); first | refine Kx.l1 HB rfl rfl ?_ | refine Kx.la HB rfl ?_) | ((with_reducible refine zac ?_); first | refine l1g HB rfl rfl rfl ?_ | refine Kx.lag HB rfl rfl ?_))
        go_roundg (gq - 1)
        case measure => omega
        case rel => exact ⟨k + 1,q2,a1,s1,rs',F,n2,ep2,A7',c7',A8',c8',vs2,ts2,by omega,rfl,rfl,rfl,rfl,by go_num,by omega,HVL,Lib.hid HN2.out.1,Lib.hid (by have:=HLi.out; rwa [show (k + 1) * 8200 = k * 8200 + 8200 by omega]),Lib.hid (HFin.out),Lib.hid (HJn.out.tail.zbt)⟩
  ·obtain rfl:k = len:=by omega
   obtain ⟨ok,KA,KC,RA,RC,HB2⟩:=HJ.out
   have HB:=Lib.hid HB2
   have d0:decide ((k:Int) < (k:Int)) = false:=by simp
   clear HB2 ok HI HJ HFo2 HAt HRd HLen HT
   go_wp2_with (first | ((with_reducible refine zai HB ?_); clear HB; intro w_ HB) | ((with_reducible refine zab ?_); first | refine Kx.l1 HB rfl rfl ?_ | refine Kx.la HB rfl ?_) | ((with_reducible refine zac ?_); first | refine l1g HB rfl rfl rfl ?_ | refine Kx.lag HB rfl rfl ?_))
   go_ret
   exact ⟨rfl,HB.out.below⟩
end Go.Proofs.YtponpgcpmlcdpaaGreatDoor
