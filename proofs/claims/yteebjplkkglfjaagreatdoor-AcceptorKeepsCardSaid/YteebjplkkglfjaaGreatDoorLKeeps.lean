import Derived.Deep.QuietTactic
import Derived.BigQuiet
import Derived.Test.YteebjplkkglfjaaGreatDoorAk
import Derived.Test.YteebjplkkglfjaaGreatDoorAo
import Derived.Test.YteebjplkkglfjaaGreatDoorAvm
import Derived.Test.YteebjplkkglfjaaGreatDoorAkp
namespace Go.Proofs.YteebjplkkglfjaaGreatDoor
open Go.RowKit Go.Shelf Km Kx Kc Kt
set_option linter.unusedVariables false
set_option linter.unusedSimpArgs false
set_option maxRecDepth 100000 in
set_option maxHeartbeats 8000000 in
theorem keeps_walk (y:Cf × List Int) (A:Option Addr) (len cap:Nat) (os:List Op) (w:World) (hc:CfAt w y.1 y.2) (w2:os.length = len ∧ len ≤ cap ∧ cap ≤ maxLen ∧ (∀ p ∈ os,p.At w w.heap.size) ∧ Rd w w.heap.size A (cat Op.cells os)) (ht:Tbs w) :
  Calls Tryz.prog 3 #[.agg (cf y.1).toArray,.slice A len cap] w fun e w' => e = .returned (.bool true) ∧ Below w.heap.size w w':=by
 obtain ⟨c,xs⟩:=y
 dsimp only at hc ⊢
 obtain ⟨hlen,-,-,hat,hrd⟩:=w2
 have HB:Hid (Bxs w w [] [] (ofz os ++ [(c.ta,i64s xs)])):=Lib.hid (zgg ((Bxs.start w).zlx hc.rd) (zp7 hat))
 have HHd:Hid (∀ W,Below w.heap.size w W → Calls Tryz.prog 8 #[] W fun e w' => e = .returned (.bool true) ∧ Below W.heap.size W w'):=Lib.hid (fun W hb => znn W (ht.1.below hb (Nat.le_refl _)) (ht.2.below hb (Nat.le_refl _)))
 obtain ⟨F0,hF0⟩ : ∃ F0,F0 = ofz os ++ [(c.ta,i64s xs)]:=⟨_,rfl⟩
 rw [←hF0] at HB
 have HF:Hid (Within [(c.ta,i64s xs)] F0):=Lib.hid (fun q hq => .inr (by rw [hF0]; exact List.mem_append.2 (.inr hq)))
 have HFo:Hid (∀ o ∈ os,∀ q ∈ mfz o.m.ms o.m.lo,q ∈ F0):=Lib.hid (fun o ho q hq => by rw [hF0]; exact List.mem_append.2 (.inl (zp8 ho q hq)))
 clear hF0
 have HL:=Lib.hid hc.len
 have HAt:=Lib.hid hat
 have HRd:=Lib.hid hrd
 have HLen:=Lib.hid hlen
 have HT:=Lib.hid ht
 have hio:(Tryz.prog.info? 39).map (·.size) = some 29:=by kernel_rfl
 clear hat hrd hlen
 by_cases hn:zrm c xs 1
 case neg =>
  as_aux_lemma =>
   have HNo:=Lib.hid (fun (W:World) (L:List (Nat × List Value)) (r':List Rw) (q:Bxs w W L r' F0) => zrl q c xs 1 HF.out HL.out hn)
   clear hc ht hn HFo HAt HRd HLen HT
   go_enter Tryz.func3,Tryz.ntmps3
   go_wp2_with (first | (go_at_call 8; refine Calls.mono (HHd.out _ HB.out.below) ?_; rintro e w_ ⟨rfl,hb_⟩; replace HB:=Lib.hid (HB.out.call hb_); clear hb_) | (go_at_call 9; refine (HNo.out _ _ _ HB.out).mono ?_; rintro e w_ ⟨rfl,hb_⟩; replace HB:=Lib.hid hb_; clear hb_) | (first | ((with_reducible refine zai HB ?_); clear HB; intro w_ HB) | ((with_reducible refine zaf ?_); (first | refine boxa HB rfl ?_ | refine boxt HB rfl rfl ?_ | refine box1 HB rfl rfl ?_); clear HB; intro b_ w_ HB; refine Kx.fr ?_) | ((with_reducible refine zaa ?_); (first | refine ala HB ?_ | refine al1 HB ?_); clear HB; intro b_ w_ HB; refine Kx.fr ?_) | ((with_reducible refine zab ?_); first | refine Kx.l1 HB rfl rfl ?_ | refine Kx.la HB rfl ?_ | refine Kx.lo HB rfl HC.out ?_) | ((with_reducible refine zac ?_); first | refine l1g HB rfl rfl rfl ?_ | refine Kx.lag HB rfl rfl ?_ | refine Kx.log HB rfl HC.out rfl ?_) | ((with_reducible refine zad ?_); (first | refine stwa HB rfl rfl ?_ | refine sta HB rfl rfl ?_ | refine Kx.stc HB rfl rfl ?_ | refine Kx.stt HB rfl rfl rfl ?_ | refine Kx.st1 HB rfl rfl rfl ?_); clear HB; intro w_ HB)))
   go_ret
   exact ⟨rfl,HB.out.below⟩
 obtain ⟨N,hN⟩ : ∃ N:Nat,c.targets = (N:Int):=⟨c.targets.toNat,by have:=hn.1.targets; omega⟩
 have HNw:=Lib.hid (fun (W:World) (L:List (Nat × List Value)) (r':List Rw) (q:Bxs w W L r' F0) => New_y q c xs 1 N HF.out HL.out hn hN)
 have hN16:N ≤ 16:=by have:=hn.1.targets.2; omega
 have hcl:0 ≤ c.l ∧ c.l ≤ 1048576:=by have:=hn.1.l; omega
 have hcm:0 ≤ c.m ∧ c.m ≤ 1048576:=hn.1.m
 have hcs:0 ≤ c.s ∧ c.s ≤ 1048576:=by have:=hn.1.s; omega
 have HCf:Hid (∀ A2 c2,zem { c with ta:=A2,tn:=c.tn,tc:=c2 } xs):=Lib.hid (fun A2 c2 => hn.1.re)
 have HN:=Lib.hid hN
 clear hc ht hn hN
 by_cases hgr:150 < (len:Int)
 ·as_aux_lemma =>
   have HG:=Lib.hid (zgd A len cap true (decide_eq_true hgr))
   clear hgr HFo HAt HRd HLen HT
   go_enter Tryz.func3,Tryz.ntmps3
   go_wp2_with (first | (go_at_call 8; refine Calls.mono (HHd.out _ HB.out.below) ?_; rintro e w_ ⟨rfl,hb_⟩; replace HB:=Lib.hid (HB.out.call hb_); clear hb_) | (go_at_call 9; fail) | (first | ((with_reducible refine zai HB ?_); clear HB; intro w_ HB) | ((with_reducible refine zaf ?_); (first | refine boxa HB rfl ?_ | refine boxt HB rfl rfl ?_ | refine box1 HB rfl rfl ?_); clear HB; intro b_ w_ HB; refine Kx.fr ?_) | ((with_reducible refine zaa ?_); (first | refine ala HB ?_ | refine al1 HB ?_); clear HB; intro b_ w_ HB; refine Kx.fr ?_) | ((with_reducible refine zab ?_); first | refine Kx.l1 HB rfl rfl ?_ | refine Kx.la HB rfl ?_ | refine Kx.lo HB rfl HC.out ?_) | ((with_reducible refine zac ?_); first | refine l1g HB rfl rfl rfl ?_ | refine Kx.lag HB rfl rfl ?_ | refine Kx.log HB rfl HC.out rfl ?_) | ((with_reducible refine zad ?_); (first | refine stwa HB rfl rfl ?_ | refine sta HB rfl rfl ?_ | refine Kx.stc HB rfl rfl ?_ | refine Kx.stt HB rfl rfl rfl ?_ | refine Kx.st1 HB rfl rfl rfl ?_); clear HB; intro w_ HB)))
   refine (HNw.out _ _ _ HB.out).mono ?_
   rintro e w2 ⟨⟨ga,g,A2,c2,p⟩,rfl,HJ,hx,hf⟩
   dsimp only at HJ hx hf
   obtain ⟨ok,KA,KC,RA,RC,HB2⟩:=HJ
   clear HB
   have HB:=Lib.hid HB2
   clear HB2 hx hf ok
   go_wp2_with (first | (go_at_call 10; refine Calls.mono (HG.out _) ?_; rintro e w_ ⟨rfl,hb_⟩; replace HB:=Lib.hid (HB.out.call hb_); clear hb_) | (first | ((with_reducible refine zai HB ?_); clear HB; intro w_ HB) | ((with_reducible refine zaf ?_); (first | refine boxa HB rfl ?_ | refine boxt HB rfl rfl ?_ | refine box1 HB rfl rfl ?_); clear HB; intro b_ w_ HB; refine Kx.fr ?_) | ((with_reducible refine zaa ?_); (first | refine ala HB ?_ | refine al1 HB ?_); clear HB; intro b_ w_ HB; refine Kx.fr ?_) | ((with_reducible refine zab ?_); first | refine Kx.l1 HB rfl rfl ?_ | refine Kx.la HB rfl ?_ | refine Kx.lo HB rfl HC.out ?_) | ((with_reducible refine zac ?_); first | refine l1g HB rfl rfl rfl ?_ | refine Kx.lag HB rfl rfl ?_ | refine Kx.log HB rfl HC.out rfl ?_) | ((with_reducible refine zad ?_); (first | refine stwa HB rfl rfl ?_ | refine sta HB rfl rfl ?_ | refine Kx.stc HB rfl rfl ?_ | refine Kx.stt HB rfl rfl rfl ?_ | refine Kx.st1 HB rfl rfl rfl ?_); clear HB; intro w_ HB)))
   go_ret
   exact ⟨rfl,HB.out.below⟩
 have hle:len ≤ 150:=by omega
 have HG:=Lib.hid (zgd A len cap false (decide_eq_false hgr))
 clear hgr
 go_enter Tryz.func3,Tryz.ntmps3
 go_wp2_with (first | (go_at_call 8; refine Calls.mono (HHd.out _ HB.out.below) ?_; rintro e w_ ⟨rfl,hb_⟩; replace HB:=Lib.hid (HB.out.call hb_); clear hb_) | (go_at_call 9; fail) | (first | ((with_reducible refine zai HB ?_); clear HB; intro w_ HB) | ((with_reducible refine zaf (d:=some 2) ?_); (first | refine boxa HB rfl ?_ | refine boxt HB rfl rfl ?_ | refine box1 HB rfl rfl ?_); clear HB; intro b2 w_ HB; refine Kx.fr ?_) | ((with_reducible refine zaa (d:=some 2) ?_); (first | refine ala HB ?_ | refine al1 HB ?_); clear HB; intro b2 w_ HB; refine Kx.fr ?_) | ((with_reducible refine zaf ?_); (first | refine boxa HB rfl ?_ | refine boxt HB rfl rfl ?_ | refine box1 HB rfl rfl ?_); clear HB; intro b_ w_ HB; refine Kx.fr ?_) | ((with_reducible refine zaa ?_); (first | refine ala HB ?_ | refine al1 HB ?_); clear HB; intro b_ w_ HB; refine Kx.fr ?_) | ((with_reducible refine zab ?_); first | refine Kx.l1 HB rfl rfl ?_ | refine Kx.la HB rfl ?_ | refine Kx.lo HB rfl HC.out ?_) | ((with_reducible refine zac ?_); first | refine l1g HB rfl rfl rfl ?_ | refine Kx.lag HB rfl rfl ?_ | refine Kx.log HB rfl HC.out rfl ?_) | ((with_reducible refine zad ?_); (first | refine stwa HB rfl rfl ?_ | refine sta HB rfl rfl ?_ | refine Kx.stc HB rfl rfl ?_ | refine Kx.stt HB rfl rfl rfl ?_ | refine Kx.st1 HB rfl rfl rfl ?_); clear HB; intro w_ HB)))
 refine (HNw.out _ _ _ HB.out).mono ?_
 rintro e w2 ⟨⟨ga,g,A2,c2,p⟩,rfl,HJ,hx,hf⟩
 dsimp only at HJ hx hf
 obtain ⟨F1,hF1⟩ : ∃ F1,F1 = (p.A,i64s p.x.pen) :: (A2,i64s xs) :: F0:=⟨_,rfl⟩
 rw [←hF1] at HJ
 obtain ⟨c1,hc1⟩ : ∃ c1,c1 = ({ c with ta:=A2,tn:=c.tn,tc:=c2 }:Cf):=⟨_,rfl⟩
 rw [←hc1] at HJ
 have HC1:Hid (c1.l = c.l ∧ c1.m = c.m ∧ c1.s = c.s ∧ c1.targets = (N:Int) ∧ zem c1 xs ∧ xs.length = c1.tn ∧ (c1.ta,i64s xs) ∈ F1):=Lib.hid (by rw [hc1]; exact ⟨rfl,rfl,rfl,HN.out,HCf.out _ _,HL.out,by rw [hF1]; exact List.mem_cons_of_mem _ (List.mem_cons_self ..)⟩)
 have HFo2:Hid (∀ o ∈ os,∀ q ∈ mfz o.m.ms o.m.lo,q ∈ F1):=Lib.hid (fun o ho q hq => by rw [hF1]; exact List.mem_cons_of_mem _ (List.mem_cons_of_mem _ (HFo.out o ho q hq)))
 have HI0:Hid (LI (zp N) 1 c1 (0 * 8200) F1 F1 [] (newA c1 1 p) Jm.new):=Lib.hid ⟨⟨⟨hf,zkf hx (by rw [hF1]; exact List.mem_cons_self ..),by show p.x.right = true; rw [hx]; exact zg6 hN16 ⟨by decide,by decide⟩ ⟨by decide,by decide⟩⟩,.inl rfl,I0,I0,rfl,by show 0 ≤ c1.l ∧ c1.l ≤ 1048576; rw [HC1.out.1]; exact hcl,by show 0 ≤ c1.m ∧ c1.m ≤ 1048576; rw [HC1.out.2.1]; exact hcm⟩,.inl (JUp.new (by rw [zmf,hx])),Nat.le_refl _,rfl,fun q hq => hq⟩
 have HV0:Hid (KInv 0 0 (KK (zp N) [])):=Lib.hid ⟨.inr ⟨rfl,Int.le_refl _⟩,.inl rfl⟩
 obtain ⟨a0,ha0⟩ : ∃ a,a = newA c1 1 p:=⟨_,rfl⟩
 rw [←ha0] at HJ HI0
 obtain ⟨ok,KA,KC,RA,RC,HB2⟩:=HJ
 clear HB HNw HHd HF HFo hF1 ha0 hc1 HCf HN
 have HB:=Lib.hid HB2
 clear HB2 hx hf ok hN16
 go_wp2_with (first | (go_at_call 10; refine Calls.mono (HG.out _) ?_; rintro e w_ ⟨rfl,hb_⟩; replace HB:=Lib.hid (HB.out.call hb_); clear hb_) | (first | ((with_reducible refine zai HB ?_); clear HB; intro w_ HB) | ((with_reducible refine zaf ?_); (first | refine boxa HB rfl ?_ | refine boxt HB rfl rfl ?_ | refine box1 HB rfl rfl ?_); clear HB; intro b_ w_ HB; refine Kx.fr ?_) | ((with_reducible refine zaa ?_); (first | refine ala HB ?_ | refine al1 HB ?_); clear HB; intro b_ w_ HB; refine Kx.fr ?_) | ((with_reducible refine zab ?_); first | refine Kx.l1 HB rfl rfl ?_ | refine Kx.la HB rfl ?_ | refine Kx.lo HB rfl HC.out ?_) | ((with_reducible refine zac ?_); first | refine l1g HB rfl rfl rfl ?_ | refine Kx.lag HB rfl rfl ?_ | refine Kx.log HB rfl HC.out rfl ?_) | ((with_reducible refine zad ?_); (first | refine stwa HB rfl rfl ?_ | refine sta HB rfl rfl ?_ | refine Kx.stc HB rfl rfl ?_ | refine Kx.stt HB rfl rfl rfl ?_ | refine Kx.st1 HB rfl rfl rfl ?_); clear HB; intro w_ HB)))
 go_loopg [7,8,9] len (fun gh ex bx ix wr => ∃ (k:Nat) (a:Ac) (s:Jm.St) (rs:List Mm.Ms) (F:Fz) (E Bt:Int),gh + k = len ∧ ex = .int .i64 E ∧ bx = .int .i64 Bt ∧ ix = .int .i64 (k:Int) ∧ Hid (LI (zp N) 1 c1 (k * 8200) F1 F rs a s) ∧ Hid (KInv E Bt (KK (zp N) rs)) ∧ Hid (Jbx w wr g s [(ga,a.cells g),(b2,cf c)] [] F))
 case atStart => exact ⟨0,a0,Jm.new,[],F1,0,0,by omega,rfl,rfl,rfl,HI0,HV0,Lib.hid ⟨Jm.zng,_,_,_,_,HB.out⟩⟩
 case round =>
  clear HB HI0 HV0 HG
  obtain ⟨k,a,s,rs,F,E,Bt,hk,rfl,rfl,rfl,HI,HV2,HJ⟩:=hrel
  by_cases hlt:k < len
  ·obtain ⟨o,ho⟩ : ∃ o,os[k]? = some o:=⟨os[k]'(by rw [HLen.out]; exact hlt),List.getElem?_eq_getElem _⟩
   have hmem:=List.mem_of_getElem? ho
   obtain ⟨ad,rfl,hlt2,hcc⟩:=Rd.part Op.zd9 HRd.out ho (by decide)
   have d3:(k:Int) < (len:Int):=by omega
   have HC:=Lib.hid (fun j v (hj:o.cells[j]? = some v) => (by rw [addr_add_add]; exact hcc j v hj:w.cell? ((ad.add (k * 29)).add j) = some v))
   have HAo:=Lib.hid (HAt.out o hmem)
   have HWi:Hid (Within (mfz o.m.ms o.m.lo) F):=Lib.hid (fun q hq => .inr (HI.out.more q (HFo2.out o hmem q hq)))
   have hsz:Jm.size s ≤ 1230000:=by have h:=HI.out.sz; have h2:k * 8200 ≤ 150 * 8200:=Nat.mul_le_mul_right _ (by omega); omega
   have HSz:=Lib.hid hsz
   obtain ⟨ok,KA,KC,RA,RC,HB2⟩:=HJ.out
   have HB:=Lib.hid HB2
   have HOk:=Lib.hid ok
   clear HB2 ok hcc hmem ho HFo2 HAt HRd HLen hlt2 HJ hsz
   go_upto_region 11 with (first | ((with_reducible refine zao ?_); (refine zev rfl 39 _ rfl _ rfl o.cells _ (fun j v hv => HB.out.old (HC.out j v hv)) Tryz.underlying39 rfl hio ?_)) | (first | ((with_reducible refine zai HB ?_); clear HB; intro w_ HB) | ((with_reducible refine zaf (d:=some 10) ?_); (first | refine boxa HB rfl ?_ | refine boxt HB rfl rfl ?_ | refine box1 HB rfl rfl ?_); clear HB; intro b10 w_ HB; refine Kx.fr ?_) | ((with_reducible refine zaa (d:=some 10) ?_); (first | refine ala HB ?_ | refine al1 HB ?_); clear HB; intro b10 w_ HB; refine Kx.fr ?_) | ((with_reducible refine zaf ?_); (first | refine boxa HB rfl ?_ | refine boxt HB rfl rfl ?_ | refine box1 HB rfl rfl ?_); clear HB; intro b_ w_ HB; refine Kx.fr ?_) | ((with_reducible refine zaa ?_); (first | refine ala HB ?_ | refine al1 HB ?_); clear HB; intro b_ w_ HB; refine Kx.fr ?_) | ((with_reducible refine zab ?_); first | refine Kx.l1 HB rfl rfl ?_ | refine Kx.la HB rfl ?_ | refine Kx.lo HB rfl HC.out ?_) | ((with_reducible refine zac ?_); first | refine l1g HB rfl rfl rfl ?_ | refine Kx.lag HB rfl rfl ?_ | refine Kx.log HB rfl HC.out rfl ?_) | ((with_reducible refine zad ?_); (first | refine stwa HB rfl rfl ?_ | refine sta HB rfl rfl ?_ | refine Kx.stc HB rfl rfl ?_ | refine Kx.stt HB rfl rfl rfl ?_ | refine Kx.st1 HB rfl rfl rfl ?_); clear HB; intro w_ HB)))
   have HJ:=Lib.hid (Jbx.box HOk.out HB.out).swap
   clear HB HOk HC KA KC RA RC
   obtain ⟨ok,KA,KC,RA,RC,HB2⟩:=HJ.out
   have HB:=Lib.hid HB2
   have HOk:=Lib.hid ok
   clear HB2 ok
   obtain ⟨V,hV⟩ : ∃ V,bits BinOp.and IntKind.i64 o.what 3 = V:=⟨_,rfl⟩
   by_cases v1:V = 1
   ·as_aux_lemma =>
     have e1:(V == 1) = true:=beq_iff_eq.2 v1
     have e0:(V != 0) = true:=by rw [v1]; rfl
     clear v1
     go_upto_region 13 with (first | ((with_reducible refine zai HB ?_); clear HB; intro w_ HB) | ((with_reducible refine zab ?_); first | refine Kx.l1 HB rfl rfl ?_ | refine Kx.la HB rfl ?_) | ((with_reducible refine zac ?_); first | refine l1g HB rfl rfl rfl ?_ | refine Kx.lag HB rfl rfl ?_))
     refine Kx.zcy (fun w' => ∃ (s':Jm.St),Jbx w w' g s' [(ga,a.cells g),(b10,o.cells),(b2,cf c)] [] F) (fun w' => Jbx w w' g s [(ga,a.cells g),(b10,o.cells),(b2,cf c)] [] F) (fun i => false) (by kernel_rfl) (show Jbx w _ g s _ [] F from ⟨HOk.out,_,_,_,_,HB.out.drew⟩) ?_
     refine tkS 0 rfl (fun w' q => ⟨s,q⟩) ?_ (hC:=Jbx.bears)
     refine tkS 2 rfl (fun w' q => ⟨s,q⟩) ?_ (hC:=Jbx.bears)
     refine tkS 3 rfl (fun w' q => ⟨s,q⟩) ?_ (hC:=Jbx.bears) (v:=.int .i64 o.n) (hy:=fun w1 ⟨s',ok,KA,KC,RA,RC,hB⟩ => Kx.zav hB b10 28 rfl o.cells inferInstance (Tryz.isAgg3 _) rfl)
     refine Kx.zfg (ι:=Unit) 1 (fun _ => .pointer (some ⟨g,0,none⟩)) (fun _ w' => Jbx w w' g s [(ga,a.cells g),(b10,o.cells),(b2,cf c)] [] F) () rfl (fun _ => Jbx.bears) (fun _ w' q => ⟨s,q⟩) ?eFuse1 (fun w hw => zf7 hw) ?hFuse1
     case eFuse1 => (intro w hw; go_simp; try (first | (refine ⟨?_,?_⟩ <;> with_reducible rfl) | with_reducible rfl))
     intro _
     refine Kx.zfg (ι:=Unit) 4 (fun _ => .tuple #[]) (fun _ w' => Jbx w w' g (Jm.fuse s o.n) [(ga,a.cells g),(b10,o.cells),(b2,cf c)] [] F) () rfl (fun _ => Jbx.bears) (fun _ w' q => ⟨_,q⟩) ?eFuse2 (fun w hw => (fuse_x hw o.n HAo.out.n.2).mono fun e w' q => ⟨(),q.1,q.2⟩) ?hFuse2
     case eFuse2 => (intro w hw; go_simp; try (first | (refine ⟨?_,?_⟩ <;> with_reducible rfl) | with_reducible rfl))
     intro _
     refine zak (by kernel_rfl) ?_
     clear HB
     intro w_ HJ_
     have HJn:=Lib.hid HJ_
     obtain ⟨ok,KA,KC,RA,RC,HB2⟩:=HJ_
     have HB:=Lib.hid HB2
     clear HB2 ok HOk
     go_wp2_with (first | ((with_reducible refine zai HB ?_); clear HB; intro w_ HB) | ((with_reducible refine zab ?_); first | refine Kx.l1 HB rfl rfl ?_ | refine Kx.la HB rfl ?_) | ((with_reducible refine zac ?_); first | refine l1g HB rfl rfl rfl ?_ | refine Kx.lag HB rfl rfl ?_))
     go_roundg (gk - 1)
     case measure => omega
     case rel => exact ⟨k + 1,a,Jm.fuse s o.n,rs,F,E,Bt,by omega,rfl,rfl,by go_num,Lib.hid (by have:=HI.out.fuse o.n; rwa [show (k + 1) * 8200 = k * 8200 + 8200 by omega]),Lib.hid (HV2.out),Lib.hid (HJn.out.zbl)⟩
   have f1:(V == 1) = false:=beq_false_of_ne v1
   by_cases v2:V = 2
   ·as_aux_lemma =>
     have e2:(V == 2) = true:=beq_iff_eq.2 v2
     have e0:(V != 0) = true:=by rw [v2]; rfl
     clear v1 v2
     go_upto_region 15 with (first | ((with_reducible refine zai HB ?_); clear HB; intro w_ HB) | ((with_reducible refine zab ?_); first | refine Kx.l1 HB rfl rfl ?_ | refine Kx.la HB rfl ?_) | ((with_reducible refine zac ?_); first | refine l1g HB rfl rfl rfl ?_ | refine Kx.lag HB rfl rfl ?_))
     refine Kx.zcy (fun w' => ∃ (s':Jm.St),Jbx w w' g s' [(ga,a.cells g),(b10,o.cells),(b2,cf c)] [] F) (fun w' => Jbx w w' g s [(ga,a.cells g),(b10,o.cells),(b2,cf c)] [] F) (fun i => false) (by kernel_rfl) (show Jbx w _ g s _ [] F from ⟨HOk.out,_,_,_,_,HB.out.drew⟩) ?_
     refine tkS 0 rfl (fun w' q => ⟨s,q⟩) ?_ (hC:=Jbx.bears)
     refine tkS 2 rfl (fun w' q => ⟨s,q⟩) ?_ (hC:=Jbx.bears)
     refine tkS 3 rfl (fun w' q => ⟨s,q⟩) ?_ (hC:=Jbx.bears) (v:=.int .i64 o.n) (hy:=fun w1 ⟨s',ok,KA,KC,RA,RC,hB⟩ => Kx.zav hB b10 28 rfl o.cells inferInstance (Tryz.isAgg3 _) rfl)
     refine Kx.zfg (ι:=Unit) 1 (fun _ => .pointer (some ⟨g,0,none⟩)) (fun _ w' => Jbx w w' g s [(ga,a.cells g),(b10,o.cells),(b2,cf c)] [] F) () rfl (fun _ => Jbx.bears) (fun _ w' q => ⟨s,q⟩) ?eCrash1 (fun w hw => zf7 hw) ?hCrash1
     case eCrash1 => (intro w hw; go_simp; try (first | (refine ⟨?_,?_⟩ <;> with_reducible rfl) | with_reducible rfl))
     intro _
     refine Kx.zfg (ι:=Unit) 4 (fun _ => .tuple #[]) (fun _ w' => Jbx w w' g (Jm.crash s o.n) [(ga,a.cells g),(b10,o.cells),(b2,cf c)] [] F) () rfl (fun _ => Jbx.bears) (fun _ w' q => ⟨_,q⟩) ?eCrash2 (fun w hw => (zmr hw o.n (Nat.le_trans HSz.out (by decide))).mono fun e w' q => ⟨(),q.1,q.2⟩) ?hCrash2
     case eCrash2 => (intro w hw; go_simp; try (first | (refine ⟨?_,?_⟩ <;> with_reducible rfl) | with_reducible rfl))
     intro _
     refine zak (by kernel_rfl) ?_
     clear HB
     intro w_ HJ_
     have HJn:=Lib.hid HJ_
     obtain ⟨ok,KA,KC,RA,RC,HB2⟩:=HJ_
     have HB:=Lib.hid HB2
     clear HB2 ok HOk
     rcases HI.out.ji.crash o.n with hd | ⟨x,hx,hxn,hd⟩
     ·as_aux_lemma =>
       have HD:=Lib.hid hd
       clear hd
       go_wp2_with (first | ((with_reducible refine zai HB ?_); clear HB; intro w_ HB) | ((with_reducible refine zab ?_); first | refine Kx.l1 HB rfl rfl ?_ | refine Kx.la HB rfl ?_) | ((with_reducible refine zac ?_); first | refine l1g HB rfl rfl rfl ?_ | refine Kx.lag HB rfl rfl ?_))
       go_roundg (gk - 1)
       case measure => omega
       case rel => exact ⟨k + 1,a,Jm.crash s o.n,rs,F,E,Bt,by omega,rfl,rfl,by go_num,Lib.hid (by have:=HI.out.crash o.n HD.out; rwa [show (k + 1) * 8200 = k * 8200 + 8200 by omega]),Lib.hid (HV2.out),Lib.hid (HJn.out.zbl)⟩
     ·as_aux_lemma =>
       have HD:=Lib.hid hd
       have HXn:=Lib.hid hxn
       clear hd hx hxn
       go_wp2_with (first | ((with_reducible refine zai HB ?_); clear HB; intro w_ HB) | ((with_reducible refine zab ?_); first | refine Kx.l1 HB rfl rfl ?_ | refine Kx.la HB rfl ?_) | ((with_reducible refine zac ?_); first | refine l1g HB rfl rfl rfl ?_ | refine Kx.lag HB rfl rfl ?_))
       go_roundg (gk - 1)
       case measure => omega
       case rel => exact ⟨k + 1,a,Jm.crash s o.n,rs ++ [x],F,E,Bt,by omega,rfl,rfl,by go_num,Lib.hid (by have:=HI.out.crash o.n HD.out; rwa [show (k + 1) * 8200 = k * 8200 + 8200 by omega]),Lib.hid (by rw [zek]; exact HV2.out.next HXn.out),Lib.hid (HJn.out.zbl)⟩
   have f2:(V == 2) = false:=beq_false_of_ne v2
   by_cases v3:V = 3
   ·as_aux_lemma =>
     have e3:(V == 3) = true:=beq_iff_eq.2 v3
     have e0:(V != 0) = true:=by rw [v3]; rfl
     have HRs:=Lib.hid (zic HJ.out HI.out.inv xs N (by rw [HI.out.c]; exact fun q hq => .inr (by rw [List.mem_singleton.1 hq]; exact HI.out.more _ HC1.out.2.2.2.2.2.2)) (by rw [HI.out.c]; exact HC1.out.2.2.2.2.2.1) (by rw [HI.out.c]; exact HC1.out.2.2.2.2.1) (by rw [HI.out.c]; exact HC1.out.2.2.2.1) rs HI.out.ji (Nat.le_trans HSz.out (by decide)) HT.out.1 HT.out.2 o.now)
     clear v1 v2 v3
     go_wp2_with (first | (go_at_call 14; fail) | (first | ((with_reducible refine zai HB ?_); clear HB; intro w_ HB) | ((with_reducible refine zab ?_); first | refine Kx.l1 HB rfl rfl ?_ | refine Kx.la HB rfl ?_) | ((with_reducible refine zac ?_); first | refine l1g HB rfl rfl rfl ?_ | refine Kx.lag HB rfl rfl ?_)))
     refine HRs.out.mono ?_
     rintro e w3 ⟨a',F',er,rfl,HJ3,hst⟩
     have HJn:=Lib.hid HJ3
     have HSt:=Lib.hid hst
     obtain ⟨ok3,KA3,KC3,RA3,RC3,HB3⟩:=HJ3
     clear HB hst
     have HB:=Lib.hid HB3
     clear HB3 ok3 HRs HJ
     go_wp2_with (first | ((with_reducible refine zai HB ?_); clear HB; intro w_ HB) | ((with_reducible refine zab ?_); first | refine Kx.l1 HB rfl rfl ?_ | refine Kx.la HB rfl ?_) | ((with_reducible refine zac ?_); first | refine l1g HB rfl rfl rfl ?_ | refine Kx.lag HB rfl rfl ?_))
     go_roundg (gk - 1)
     case measure => omega
     case rel => exact ⟨k + 1,a',(Jm.opn s).1,rs,F',E,Bt,by omega,rfl,rfl,by go_num,Lib.hid (by have:=HI.out.rst HSt.out; rwa [show (k + 1) * 8200 = k * 8200 + 8200 by omega]),Lib.hid (HV2.out),Lib.hid (HJn.out.zbl)⟩
   have f3:(V == 3) = false:=beq_false_of_ne v3
   by_cases v0:V = 0
   case neg =>
    as_aux_lemma =>
     have e0:(V != 0) = true:=bne_iff_ne.2 v0
     have HLi:Hid (LI (zp N) 1 c1 (k * 8200 + 8200) F1 F rs a s):=Lib.hid ⟨HI.out.inv,HI.out.ji,Nat.le_trans HI.out.sz (Nat.le_add_right ..),HI.out.c,HI.out.more⟩
     clear v0 v1 v2 v3
     go_wp2_with (first | ((with_reducible refine zai HB ?_); clear HB; intro w_ HB) | ((with_reducible refine zab ?_); first | refine Kx.l1 HB rfl rfl ?_ | refine Kx.la HB rfl ?_) | ((with_reducible refine zac ?_); first | refine l1g HB rfl rfl rfl ?_ | refine Kx.lag HB rfl rfl ?_))
     go_roundg (gk - 1)
     case measure => omega
     case rel => exact ⟨k + 1,a,s,rs,F,E,Bt,by omega,rfl,rfl,by go_num,Lib.hid (by have:=HLi.out; rwa [show (k + 1) * 8200 = k * 8200 + 8200 by omega]),Lib.hid (HV2.out),Lib.hid (Jbx.zbl (p:=(ga,a.cells g)) (q:=(b10,o.cells)) ⟨HOk.out,_,_,_,_,HB.out⟩)⟩
   have e0:(V != 0) = false:=by rw [v0]; rfl
   clear v0 v1 v2 v3
   obtain ⟨R,hR⟩ : ∃ R,handle a s o.m.ms o.m.lo o.now = R:=⟨_,rfl⟩
   obtain ⟨rs',hst⟩:=zk4 (now:=o.now) HI.out.inv HI.out.ji (Mg.msOk HAo.out.m) HWi.out
   rw [hR] at hst
   have HLi:=Lib.hid (HI.out.handle (show Pm.I o.m.ms.b from HAo.out.m.b) hst)
   have hls:=keeps_step HV2.out hst
   have hcc1:a.c.s = c.s:=by rw [HI.out.c,HC1.out.2.2.1]
   rw [hcc1] at hls
   have HCl:Hid (Calls Tryz.prog 15 #[.pointer (some ⟨ga,0,none⟩),.agg o.m.cells.toArray,.int .i64 o.now] w_ fun e w' => Outs w w' ga g [(b10,o.cells),(b2,cf c)] [] F R e):=Lib.hid (by
    rw [←hR]
    exact zd7 HJ.out HI.out.inv.ok o.m.ms o.m.lo o.now (Mg.msOk HAo.out.m) HWi.out HT.out.1 HT.out.2 (Nat.le_trans HSz.out (by decide)))
   clear hR hst hcc1 HI HV2 HWi HSz HC1 HT HAo
   obtain ⟨a1,s1,o1⟩:=R
   go_wp2_with (first | (go_at_call 15; fail) | (first | ((with_reducible refine zai HB ?_); clear HB; intro w_ HB) | ((with_reducible refine zab ?_); first | refine Kx.l1 HB rfl rfl ?_ | refine Kx.la HB rfl ?_) | ((with_reducible refine zac ?_); first | refine l1g HB rfl rfl rfl ?_ | refine Kx.lag HB rfl rfl ?_)))
   refine HCl.out.mono ?_
   clear HB HJ HOk
   cases o1 with
   | none =>
     as_aux_lemma =>
      rintro e w3 ⟨rfl,HJ3⟩
      have HLs:=Lib.hid (hls.1 rfl)
      have HJn:=Lib.hid HJ3
      obtain ⟨ok3,KA3,KC3,RA3,RC3,HB3⟩:=HJ3
      have HB:=Lib.hid HB3
      clear HB3 ok3 HCl hls
      obtain ⟨gq,rfl⟩ : ∃ q,q = gk:=⟨_,rfl⟩
      go_wp2_with (first | ((with_reducible refine zai HB ?_); clear HB; intro w_ HB) | ((with_reducible refine zab ?_); first | refine Kx.l1 HB rfl rfl ?_ | refine Kx.la HB rfl ?_) | ((with_reducible refine zac ?_); first | refine l1g HB rfl rfl rfl ?_ | refine Kx.lag HB rfl rfl ?_))
      go_loopg [7,8,12] 1 (fun gh ex bx kx wr => gh = 1 ∧ ex = .int .i64 E ∧ bx = .int .i64 Bt ∧ kx = .int .i64 0 ∧ Hid (Jbx w wr g s1 [(ga,a1.cells g),(b10,o.cells),(b2,cf c)] [] F))
      case atStart => exact ⟨rfl,rfl,rfl,rfl,HJn⟩
      case round =>
       clear HB HJn
       obtain ⟨-,rfl,rfl,rfl,HJn⟩:=hrel
       obtain ⟨ok3,KA3,KC3,RA3,RC3,HB3⟩:=HJn.out
       have HB:=Lib.hid HB3
       clear HB3 ok3
       go_wp2_with (first | ((with_reducible refine zai HB ?_); clear HB; intro w_ HB) | ((with_reducible refine zab ?_); first | refine Kx.l1 HB rfl rfl ?_ | refine Kx.la HB rfl ?_) | ((with_reducible refine zac ?_); first | refine l1g HB rfl rfl rfl ?_ | refine Kx.lag HB rfl rfl ?_))
       go_roundg (gq - 1)
       case measure => omega
       case rel => exact ⟨k + 1,a1,s1,rs',F,E,Bt,by omega,rfl,rfl,by go_num,Lib.hid (by have:=HLi.out; rwa [show (k + 1) * 8200 = k * 8200 + 8200 by omega]),Lib.hid (HLs.out),Lib.hid (HJn.out.zbl)⟩
   | some q =>
     obtain ⟨x,lo⟩:=q
     rintro e w3 ⟨bx,rfl,HJ3⟩
     have HLs:=Lib.hid (hls.2 x lo rfl)
     have HJn:=Lib.hid HJ3
     obtain ⟨ok3,KA3,KC3,RA3,RC3,HB3⟩:=HJ3
     have HB:=Lib.hid HB3
     clear HB3 ok3 HCl hls
     obtain ⟨gq,rfl⟩ : ∃ q,q = gk:=⟨_,rfl⟩
     go_wp2_with (first | ((with_reducible refine zai HB ?_); clear HB; intro w_ HB) | ((with_reducible refine zab ?_); first | refine Kx.l1 HB rfl rfl ?_ | refine Kx.la HB rfl ?_) | ((with_reducible refine zac ?_); first | refine l1g HB rfl rfl rfl ?_ | refine Kx.lag HB rfl rfl ?_))
     go_loopg [7,8,12] 2 (fun gh ex bx_ kx wr => ∃ (E2 B2:Int),ex = .int .i64 E2 ∧ bx_ = .int .i64 B2 ∧ Hid (Jbx w wr g s1 [(bx,mvs x lo),(ga,a1.cells g),(b10,o.cells),(b2,cf c)] [] F) ∧ ((gh = 2 ∧ kx = .int .i64 0 ∧ E2 = E ∧ B2 = Bt) ∨ (gh = 1 ∧ kx = .int .i64 1 ∧ Hid (KInv E2 B2 (KK (zp N) rs')))))
     case atStart => exact ⟨E,Bt,rfl,rfl,HJn,.inl ⟨rfl,rfl,rfl,rfl⟩⟩
     case round =>
      clear HB HJn
      obtain ⟨E2,B2,rfl,rfl,HJn,hph⟩:=hrel
      obtain ⟨ok3,KA3,KC3,RA3,RC3,HB3⟩:=HJn.out
      have HB:=Lib.hid HB3
      have HOk3:=Lib.hid ok3
      clear HB3 ok3
      rcases hph with ⟨hg1,rfl,rfl,rfl⟩ | ⟨hg1,rfl,HFin⟩
      ·rcases HLs.out with ⟨h5,h8,hli⟩ | ⟨h5,hlx,hpl,hli⟩ | ⟨h8,hlx,hst,hnow,hli⟩
       ·have HFin:=Lib.hid hli
        have t1:(x.k != 5) = true:=bne_iff_ne.2 h5
        have t2:(x.k != 8) = true:=bne_iff_ne.2 h8
        clear hli HLs h5 h8
        go_wp2_with (first | ((with_reducible refine zai HB ?_); clear HB; intro w_ HB) | ((with_reducible refine zab ?_); first | refine Kx.l1 HB rfl rfl ?_ | refine Kx.la HB rfl ?_) | ((with_reducible refine zac ?_); first | refine l1g HB rfl rfl rfl ?_ | refine Kx.lag HB rfl rfl ?_))
        go_roundg 1
        case measure => omega
        case rel => exact ⟨_,_,rfl,rfl,HJn,.inr ⟨rfl,rfl,HFin⟩⟩
       ·have HFin:=Lib.hid hli
        have t1:(x.k != 5) = false:=by rw [h5]; rfl
        have t2:(x.k == 5) = true:=by rw [h5]; rfl
        have t3:(x.k == 8) = false:=by rw [h5]; rfl
        have t4:decide (x.e < E2) = false:=decide_eq_false (by rcases hlx with q | q <;> omega)
        clear hli HLs h5
        have hl2:((x.e == E2) = false) ∨ ((x.e == E2) = true ∧ decide (x.b < B2) = false ∧ (x.b == B2) = false):=by
         rcases hlx with q | q
         ·exact .inl (beq_false_of_ne (by omega))
         ·exact .inr ⟨beq_iff_eq.2 q.1,decide_eq_false (by omega),beq_false_of_ne (by omega)⟩
        have hp2:x.has = false ∨ (x.has = true ∧ decide (x.b ≤ x.a) = false ∧ (x.plan.e != x.e) = false):=by
         cases hh:x.has with
         | false => exact .inl rfl
         | true => exact .inr ⟨rfl,decide_eq_false (by have:=(hpl hh).1; omega),by rw [(hpl hh).2]; simp⟩
        clear hlx hpl
        rcases hl2 with u1 | ⟨u1,u2,u3⟩
        ·rcases hp2 with p1 | ⟨p1,p2,p3⟩
         ·as_aux_lemma =>
           go_upto_region 26 with (first | ((with_reducible refine zai HB ?_); clear HB; intro w_ HB) | ((with_reducible refine zab ?_); first | refine Kx.l1 HB rfl rfl ?_ | refine Kx.la HB rfl ?_) | ((with_reducible refine zac ?_); first | refine l1g HB rfl rfl rfl ?_ | refine Kx.lag HB rfl rfl ?_))
           simp only [List.append_eq,List.cons_append,List.nil_append]
           have kc0:=HB.out.cell (b:=bx) (cs:=mvs x lo) (j:=0) (List.mem_cons_of_mem _ (List.mem_cons_self ..)) rfl
           have kc3:=HB.out.cell (b:=bx) (cs:=mvs x lo) (j:=3) (List.mem_cons_of_mem _ (List.mem_cons_self ..)) rfl
           have kc4:=HB.out.cell (b:=bx) (cs:=mvs x lo) (j:=4) (List.mem_cons_of_mem _ (List.mem_cons_self ..)) rfl
           have kc5:=HB.out.cell (b:=bx) (cs:=mvs x lo) (j:=5) (List.mem_cons_of_mem _ (List.mem_cons_self ..)) rfl
           have kc10:=HB.out.cell (b:=bx) (cs:=mvs x lo) (j:=10) (List.mem_cons_of_mem _ (List.mem_cons_self ..)) rfl
           have kc11:=HB.out.cell (b:=bx) (cs:=mvs x lo) (j:=11) (List.mem_cons_of_mem _ (List.mem_cons_self ..)) rfl
           go_quiet (fail)
           replace HB:=Lib.hid (HB.out.call (za0 (Below.refl _ _) nq))
           clear kc0 kc3 kc4 kc5 kc10 kc11
           go_wp2_with (first | ((with_reducible refine zai HB ?_); clear HB; intro w_ HB) | ((with_reducible refine zab ?_); first | refine Kx.l1 HB rfl rfl ?_ | refine Kx.la HB rfl ?_) | ((with_reducible refine zac ?_); first | refine l1g HB rfl rfl rfl ?_ | refine Kx.lag HB rfl rfl ?_))
           go_roundg 1
           case measure => omega
           case rel => exact ⟨_,_,rfl,rfl,Lib.hid ⟨HOk3.out,_,_,_,_,HB.out⟩,.inr ⟨rfl,rfl,HFin⟩⟩
         ·as_aux_lemma =>
           go_upto_region 26 with (first | ((with_reducible refine zai HB ?_); clear HB; intro w_ HB) | ((with_reducible refine zab ?_); first | refine Kx.l1 HB rfl rfl ?_ | refine Kx.la HB rfl ?_) | ((with_reducible refine zac ?_); first | refine l1g HB rfl rfl rfl ?_ | refine Kx.lag HB rfl rfl ?_))
           simp only [List.append_eq,List.cons_append,List.nil_append]
           have kc0:=HB.out.cell (b:=bx) (cs:=mvs x lo) (j:=0) (List.mem_cons_of_mem _ (List.mem_cons_self ..)) rfl
           have kc3:=HB.out.cell (b:=bx) (cs:=mvs x lo) (j:=3) (List.mem_cons_of_mem _ (List.mem_cons_self ..)) rfl
           have kc4:=HB.out.cell (b:=bx) (cs:=mvs x lo) (j:=4) (List.mem_cons_of_mem _ (List.mem_cons_self ..)) rfl
           have kc5:=HB.out.cell (b:=bx) (cs:=mvs x lo) (j:=5) (List.mem_cons_of_mem _ (List.mem_cons_self ..)) rfl
           have kc10:=HB.out.cell (b:=bx) (cs:=mvs x lo) (j:=10) (List.mem_cons_of_mem _ (List.mem_cons_self ..)) rfl
           have kc11:=HB.out.cell (b:=bx) (cs:=mvs x lo) (j:=11) (List.mem_cons_of_mem _ (List.mem_cons_self ..)) rfl
           go_quiet (fail)
           replace HB:=Lib.hid (HB.out.call (za0 (Below.refl _ _) nq))
           clear kc0 kc3 kc4 kc5 kc10 kc11
           go_wp2_with (first | ((with_reducible refine zai HB ?_); clear HB; intro w_ HB) | ((with_reducible refine zab ?_); first | refine Kx.l1 HB rfl rfl ?_ | refine Kx.la HB rfl ?_) | ((with_reducible refine zac ?_); first | refine l1g HB rfl rfl rfl ?_ | refine Kx.lag HB rfl rfl ?_))
           go_roundg 1
           case measure => omega
           case rel => exact ⟨_,_,rfl,rfl,Lib.hid ⟨HOk3.out,_,_,_,_,HB.out⟩,.inr ⟨rfl,rfl,HFin⟩⟩
        ·rcases hp2 with p1 | ⟨p1,p2,p3⟩
         ·as_aux_lemma =>
           go_upto_region 26 with (first | ((with_reducible refine zai HB ?_); clear HB; intro w_ HB) | ((with_reducible refine zab ?_); first | refine Kx.l1 HB rfl rfl ?_ | refine Kx.la HB rfl ?_) | ((with_reducible refine zac ?_); first | refine l1g HB rfl rfl rfl ?_ | refine Kx.lag HB rfl rfl ?_))
           simp only [List.append_eq,List.cons_append,List.nil_append]
           have kc0:=HB.out.cell (b:=bx) (cs:=mvs x lo) (j:=0) (List.mem_cons_of_mem _ (List.mem_cons_self ..)) rfl
           have kc3:=HB.out.cell (b:=bx) (cs:=mvs x lo) (j:=3) (List.mem_cons_of_mem _ (List.mem_cons_self ..)) rfl
           have kc4:=HB.out.cell (b:=bx) (cs:=mvs x lo) (j:=4) (List.mem_cons_of_mem _ (List.mem_cons_self ..)) rfl
           have kc5:=HB.out.cell (b:=bx) (cs:=mvs x lo) (j:=5) (List.mem_cons_of_mem _ (List.mem_cons_self ..)) rfl
           have kc10:=HB.out.cell (b:=bx) (cs:=mvs x lo) (j:=10) (List.mem_cons_of_mem _ (List.mem_cons_self ..)) rfl
           have kc11:=HB.out.cell (b:=bx) (cs:=mvs x lo) (j:=11) (List.mem_cons_of_mem _ (List.mem_cons_self ..)) rfl
           go_quiet (fail)
           replace HB:=Lib.hid (HB.out.call (za0 (Below.refl _ _) nq))
           clear kc0 kc3 kc4 kc5 kc10 kc11
           go_wp2_with (first | ((with_reducible refine zai HB ?_); clear HB; intro w_ HB) | ((with_reducible refine zab ?_); first | refine Kx.l1 HB rfl rfl ?_ | refine Kx.la HB rfl ?_) | ((with_reducible refine zac ?_); first | refine l1g HB rfl rfl rfl ?_ | refine Kx.lag HB rfl rfl ?_))
           go_roundg 1
           case measure => omega
           case rel => exact ⟨_,_,rfl,rfl,Lib.hid ⟨HOk3.out,_,_,_,_,HB.out⟩,.inr ⟨rfl,rfl,HFin⟩⟩
         ·as_aux_lemma =>
           go_upto_region 26 with (first | ((with_reducible refine zai HB ?_); clear HB; intro w_ HB) | ((with_reducible refine zab ?_); first | refine Kx.l1 HB rfl rfl ?_ | refine Kx.la HB rfl ?_) | ((with_reducible refine zac ?_); first | refine l1g HB rfl rfl rfl ?_ | refine Kx.lag HB rfl rfl ?_))
           simp only [List.append_eq,List.cons_append,List.nil_append]
           have kc0:=HB.out.cell (b:=bx) (cs:=mvs x lo) (j:=0) (List.mem_cons_of_mem _ (List.mem_cons_self ..)) rfl
           have kc3:=HB.out.cell (b:=bx) (cs:=mvs x lo) (j:=3) (List.mem_cons_of_mem _ (List.mem_cons_self ..)) rfl
           have kc4:=HB.out.cell (b:=bx) (cs:=mvs x lo) (j:=4) (List.mem_cons_of_mem _ (List.mem_cons_self ..)) rfl
           have kc5:=HB.out.cell (b:=bx) (cs:=mvs x lo) (j:=5) (List.mem_cons_of_mem _ (List.mem_cons_self ..)) rfl
           have kc10:=HB.out.cell (b:=bx) (cs:=mvs x lo) (j:=10) (List.mem_cons_of_mem _ (List.mem_cons_self ..)) rfl
           have kc11:=HB.out.cell (b:=bx) (cs:=mvs x lo) (j:=11) (List.mem_cons_of_mem _ (List.mem_cons_self ..)) rfl
           go_quiet (fail)
           replace HB:=Lib.hid (HB.out.call (za0 (Below.refl _ _) nq))
           clear kc0 kc3 kc4 kc5 kc10 kc11
           go_wp2_with (first | ((with_reducible refine zai HB ?_); clear HB; intro w_ HB) | ((with_reducible refine zab ?_); first | refine Kx.l1 HB rfl rfl ?_ | refine Kx.la HB rfl ?_) | ((with_reducible refine zac ?_); first | refine l1g HB rfl rfl rfl ?_ | refine Kx.lag HB rfl rfl ?_))
           go_roundg 1
           case measure => omega
           case rel => exact ⟨_,_,rfl,rfl,Lib.hid ⟨HOk3.out,_,_,_,_,HB.out⟩,.inr ⟨rfl,rfl,HFin⟩⟩
       ·have HFin:=Lib.hid hli
        have t1:(x.k != 5) = true:=by rw [h8]; rfl
        have t2:(x.k != 8) = false:=by rw [h8]; rfl
        have t3:(x.k == 5) = false:=by rw [h8]; rfl
        have t4:(x.k == 8) = true:=by rw [h8]; rfl
        have t5:decide (x.e < E2) = false:=decide_eq_false (by rcases hlx with q | q <;> omega)
        have t6:IntKind.i64.wrap (o.now + c.s) = o.now + c.s:=by rw [IntKind.wrap_i64]; omega
        have t7:decide (o.now + c.s < o.m.pl.e) = decide (o.now + c.s < o.m.pl.e):=rfl
        have t8:decide (o.now + c.s < o.m.pl.st) = false:=decide_eq_false (by have h:o.m.pl.st ≤ o.now + c.s:=hst; omega)
        clear hli HLs h8 t7 hst hnow
        have hl2:((x.e == E2) = false) ∨ ((x.e == E2) = true ∧ decide (x.b < B2) = false):=by
         rcases hlx with q | q
         ·exact .inl (beq_false_of_ne (by omega))
         ·exact .inr ⟨beq_iff_eq.2 q.1,decide_eq_false (by omega)⟩
        clear hlx
        rcases hl2 with u1 | ⟨u1,u2⟩
        ·as_aux_lemma =>
          go_upto_region 26 with (first | ((with_reducible refine zai HB ?_); clear HB; intro w_ HB) | ((with_reducible refine zab ?_); first | refine Kx.l1 HB rfl rfl ?_ | refine Kx.la HB rfl ?_) | ((with_reducible refine zac ?_); first | refine l1g HB rfl rfl rfl ?_ | refine Kx.lag HB rfl rfl ?_))
          simp only [List.append_eq,List.cons_append,List.nil_append]
          have kc0:=HB.out.cell (b:=bx) (cs:=mvs x lo) (j:=0) (List.mem_cons_of_mem _ (List.mem_cons_self ..)) rfl
          have kc3:=HB.out.cell (b:=bx) (cs:=mvs x lo) (j:=3) (List.mem_cons_of_mem _ (List.mem_cons_self ..)) rfl
          have kc4:=HB.out.cell (b:=bx) (cs:=mvs x lo) (j:=4) (List.mem_cons_of_mem _ (List.mem_cons_self ..)) rfl
          have kc5:=HB.out.cell (b:=bx) (cs:=mvs x lo) (j:=5) (List.mem_cons_of_mem _ (List.mem_cons_self ..)) rfl
          have kc10:=HB.out.cell (b:=bx) (cs:=mvs x lo) (j:=10) (List.mem_cons_of_mem _ (List.mem_cons_self ..)) rfl
          have kc11:=HB.out.cell (b:=bx) (cs:=mvs x lo) (j:=11) (List.mem_cons_of_mem _ (List.mem_cons_self ..)) rfl
          go_quiet (fail)
          replace HB:=Lib.hid (HB.out.call (za0 (Below.refl _ _) nq))
          clear kc0 kc3 kc4 kc5 kc10 kc11
          go_wp2_with (first | ((with_reducible refine zai HB ?_); clear HB; intro w_ HB) | ((with_reducible refine zab ?_); first | refine Kx.l1 HB rfl rfl ?_ | refine Kx.la HB rfl ?_) | ((with_reducible refine zac ?_); first | refine l1g HB rfl rfl rfl ?_ | refine Kx.lag HB rfl rfl ?_))
          go_roundg 1
          case measure => omega
          case rel => exact ⟨_,_,rfl,rfl,Lib.hid ⟨HOk3.out,_,_,_,_,HB.out⟩,.inr ⟨rfl,rfl,HFin⟩⟩
        ·as_aux_lemma =>
          go_upto_region 26 with (first | ((with_reducible refine zai HB ?_); clear HB; intro w_ HB) | ((with_reducible refine zab ?_); first | refine Kx.l1 HB rfl rfl ?_ | refine Kx.la HB rfl ?_) | ((with_reducible refine zac ?_); first | refine l1g HB rfl rfl rfl ?_ | refine Kx.lag HB rfl rfl ?_))
          simp only [List.append_eq,List.cons_append,List.nil_append]
          have kc0:=HB.out.cell (b:=bx) (cs:=mvs x lo) (j:=0) (List.mem_cons_of_mem _ (List.mem_cons_self ..)) rfl
          have kc3:=HB.out.cell (b:=bx) (cs:=mvs x lo) (j:=3) (List.mem_cons_of_mem _ (List.mem_cons_self ..)) rfl
          have kc4:=HB.out.cell (b:=bx) (cs:=mvs x lo) (j:=4) (List.mem_cons_of_mem _ (List.mem_cons_self ..)) rfl
          have kc5:=HB.out.cell (b:=bx) (cs:=mvs x lo) (j:=5) (List.mem_cons_of_mem _ (List.mem_cons_self ..)) rfl
          have kc10:=HB.out.cell (b:=bx) (cs:=mvs x lo) (j:=10) (List.mem_cons_of_mem _ (List.mem_cons_self ..)) rfl
          have kc11:=HB.out.cell (b:=bx) (cs:=mvs x lo) (j:=11) (List.mem_cons_of_mem _ (List.mem_cons_self ..)) rfl
          go_quiet (fail)
          replace HB:=Lib.hid (HB.out.call (za0 (Below.refl _ _) nq))
          clear kc0 kc3 kc4 kc5 kc10 kc11
          go_wp2_with (first | ((with_reducible refine zai HB ?_); clear HB; intro w_ HB) | ((with_reducible refine zab ?_); first | refine Kx.l1 HB rfl rfl ?_ | refine Kx.la HB rfl ?_) | ((with_reducible refine zac ?_); first | refine l1g HB rfl rfl rfl ?_ | refine Kx.lag HB rfl rfl ?_))
          go_roundg 1
          case measure => omega
          case rel => exact ⟨_,_,rfl,rfl,Lib.hid ⟨HOk3.out,_,_,_,_,HB.out⟩,.inr ⟨rfl,rfl,HFin⟩⟩
      ·as_aux_lemma =>
        clear HLs
        go_wp2_with (first | ((with_reducible refine zai HB ?_); clear HB; intro w_ HB) | ((with_reducible refine zab ?_); first | refine Kx.l1 HB rfl rfl ?_ | refine Kx.la HB rfl ?_) | ((with_reducible refine zac ?_); first | refine l1g HB rfl rfl rfl ?_ | refine Kx.lag HB rfl rfl ?_))
        go_roundg (gq - 1)
        case measure => omega
        case rel => exact ⟨k + 1,a1,s1,rs',F,E2,B2,by omega,rfl,rfl,by go_num,Lib.hid (by have:=HLi.out; rwa [show (k + 1) * 8200 = k * 8200 + 8200 by omega]),Lib.hid (HFin.out),Lib.hid (HJn.out.tail.zbl)⟩
  ·obtain rfl:k = len:=by omega
   obtain ⟨ok,KA,KC,RA,RC,HB2⟩:=HJ.out
   have HB:=Lib.hid HB2
   have d0:decide ((k:Int) < (k:Int)) = false:=by simp
   clear HB2 ok HI HJ HFo2 HAt HRd HLen HT
   go_wp2_with (first | ((with_reducible refine zai HB ?_); clear HB; intro w_ HB) | ((with_reducible refine zab ?_); first | refine Kx.l1 HB rfl rfl ?_ | refine Kx.la HB rfl ?_) | ((with_reducible refine zac ?_); first | refine l1g HB rfl rfl rfl ?_ | refine Kx.lag HB rfl rfl ?_))
   go_ret
   exact ⟨rfl,HB.out.below⟩
end Go.Proofs.YteebjplkkglfjaaGreatDoor
