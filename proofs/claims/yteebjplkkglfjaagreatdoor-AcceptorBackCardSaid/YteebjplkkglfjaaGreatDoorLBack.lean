import Derived.Test.YteebjplkkglfjaaGreatDoorAk
import Derived.Test.YteebjplkkglfjaaGreatDoorAo
import Derived.Test.YteebjplkkglfjaaGreatDoorAvm
import Derived.Test.YteebjplkkglfjaaGreatDoorPs
namespace Go.Proofs.YteebjplkkglfjaaGreatDoor
open Go.RowKit Go.Shelf Km Kx Kc Kt
set_option linter.unusedVariables false
set_option linter.unusedSimpArgs false
def askM:Mm.Ms:=mk 10 1099511627776 0 0 0 1 false Pm.zero
theorem zow:Tryz.prog.built 37 [(0,.int .i64 10),(3,.int .i64 1099511627776),(9,.int .i64 1)] = some (mvs askM Lo.zero).toArray:=by kernel_rfl
theorem JUp.crashed {z:Pm.Pl} {s:Jm.St} {rs:List Mm.Ms} {a:Ac} (h:JUp z s rs a) (n:Int):JDn z (Jm.crash s n) rs ∧ (Jm.opn (Jm.crash s n)).1.off = false:=by
 have hk:(Jm.crash s n).kept = Fm.cat (frs rs):=by
  show s.kept ++ s.rest.take _ = _
  rw [h.rest,h.kept,List.take_nil,List.append_nil]
 refine ⟨⟨h.rc,rfl,[],by rw [hk,List.append_nil],zgz,.inl rfl⟩,?_⟩
 have ha:Fm.al (Jm.crash s n).kept = frs rs:=by rw [hk]; have:=zqi h.rc zgz; rwa [List.append_nil] at this
 have hw:¬ Jm.whole (Jm.crash s n) < (Jm.crash s n).kept.length:=by unfold Jm.whole; rw [ha,hk]; exact Nat.lt_irrefl _
 rw [Jm.zmb hw]
 rfl
theorem spl_co {a b:Ac} (h:a.co = b.co):a.e = b.e ∧ a.pr = b.pr ∧ a.ac = b.ac ∧ a.spl.x = b.spl.x:=by
 have h1:a.ac = b.ac:=congrArg Co.ac h
 have h2:a.pl.x = b.pl.x:=congrArg Co.pl h
 refine ⟨congrArg Co.e h,congrArg Co.pr h,h1,?_⟩
 unfold Ac.spl
 by_cases q:a.ac = 0
 ·rw [if_pos q,if_pos (by rw [←h1]; exact q)]
 ·rw [if_neg q,if_neg (by rw [←h1]; exact q),h2]
theorem zph {F:Fz} {node:Int} {a:Ac} (h:Inv F node a):a.spl.n ≤ 9000000 ∧ a.spl.n' ≤ 9000000:=by
 unfold Ac.spl
 by_cases q:a.ac = 0
 ·rw [if_pos q]; exact ⟨Nat.zero_le _,Nat.zero_le _⟩
 ·rw [if_neg q]
  have hp:=h.pl.resolve_left q
  have hl:=Pm.zd0 hp.2.2
  exact ⟨by rw [←hp.1.l1]; exact Nat.le_trans hl.1 (by decide),by rw [←hp.1.l2]; exact Nat.le_trans hl.2.1 (by decide)⟩
theorem spl_at {F:Fz} {node:Int} {a:Ac} (h:Inv F node a) {w0 w:World} {l:List (Nat × List Value)} {r:List Rw} (hB:Bxs w0 w l r F):PAt w w.heap.size a.spl.x a.spl.A a.spl.n a.spl.c a.spl.A' a.spl.n' a.spl.c' :=
 have k:=h.spl
 ⟨k.1.ok,k.2.1.rd hB (List.mem_cons_self ..),k.2.1.rd hB (List.mem_cons_of_mem _ (List.mem_cons_self ..)),k.1.c2,k.1.l1,k.1.l2⟩
set_option maxRecDepth 100000 in
set_option maxHeartbeats 8000000 in
theorem zrh (y:Cf × List Int) (A:Option Addr) (len cap:Nat) (os:List Op) (a3:Int) (w:World) (hc:CfAt w y.1 y.2) (w2:os.length = len ∧ len ≤ cap ∧ cap ≤ maxLen ∧ (∀ p ∈ os,p.At w w.heap.size) ∧ Rd w w.heap.size A (cat Op.cells os)) (w3:(Lit.int .i64 a3).wf = true) (ht:Tbs w) :
  Calls Tryz.prog 6 #[.agg (cf y.1).toArray,.slice A len cap,.int .i64 a3] w fun e w' => e = .returned (.bool true) ∧ Below w.heap.size w w':=by
 obtain ⟨c,xs⟩:=y
 dsimp only at hc ⊢
 obtain ⟨hlen,-,-,hat,hrd⟩:=w2
 have HB:Hid (Bxs w w [] [] (ofz os ++ [(c.ta,i64s xs)])):=Lib.hid (zgg ((Bxs.start w).zlx hc.rd) (zp7 hat))
 have HHd:Hid (∀ W,Below w.heap.size w W → Calls Tryz.prog 8 #[] W fun e w' => e = .returned (.bool true) ∧ Below W.heap.size W w'):=Lib.hid (fun W hb => znn W (ht.1.below hb (Nat.le_refl _)) (ht.2.below hb (Nat.le_refl _)))
 obtain ⟨F0,hF0⟩ : ∃ F0,F0 = ofz os ++ [(c.ta,i64s xs)]:=⟨_,rfl⟩
 rw [←hF0] at HB
 have HF:Hid (Within [(c.ta,i64s xs)] F0):=Lib.hid (fun q hq => .inr (by rw [hF0]; exact List.mem_append.2 (.inr hq)))
 have HFo:Hid (∀ o ∈ os,∀ q ∈ mfz o.m.ms o.m.lo,q ∈ F0):=Lib.hid (fun o ho q hq => by rw [hF0]; exact List.mem_append.2 (.inl (zp8 ho q hq)))
 clear hF0
 have HL:=Lib.hid hc.len
 have HAt:=Lib.hid hat
 have HRd:=Lib.hid hrd
 have HLen:=Lib.hid hlen
 have HT:=Lib.hid ht
 have hio:(Tryz.prog.info? 39).map (·.size) = some 29:=by kernel_rfl
 clear hat hrd hlen
 by_cases hn:zrm c xs 1
 case neg =>
  have HNo:=Lib.hid (fun (W:World) (L:List (Nat × List Value)) (r':List Rw) (q:Bxs w W L r' F0) => zrl q c xs 1 HF.out HL.out hn)
  clear hc ht hn HFo HAt HRd HLen HT
  go_enter Tryz.func6,Tryz.ntmps6
  go_wp2_with (first | (go_at_call 8; refine Calls.mono (HHd.out _ HB.out.below) ?_; rintro e w_ ⟨rfl,hb_⟩; replace HB:=Lib.hid (HB.out.call hb_); clear hb_) | (go_at_call 9; refine (HNo.out _ _ _ HB.out).mono ?_; rintro e w_ ⟨rfl,hb_⟩; replace HB:=Lib.hid hb_; clear hb_) | (first | ((with_reducible refine zai HB ?_); clear HB; intro w_ HB) | ((with_reducible refine zaf ?_); (first | refine boxa HB rfl ?_ | refine boxt HB rfl rfl ?_ | refine box1 HB rfl rfl ?_); clear HB; intro b_ w_ HB; refine Kx.fr ?_) | ((with_reducible refine zaa ?_); (first | refine ala HB ?_ | refine al1 HB ?_); clear HB; intro b_ w_ HB; refine Kx.fr ?_) | ((with_reducible refine zab ?_); first | refine Kx.l1 HB rfl rfl ?_ | refine Kx.la HB rfl ?_ | refine Kx.lo HB rfl HC.out ?_) | ((with_reducible refine zac ?_); first | refine l1g HB rfl rfl rfl ?_ | refine Kx.lag HB rfl rfl ?_ | refine Kx.log HB rfl HC.out rfl ?_) | ((with_reducible refine zad ?_); (first | refine stwa HB rfl rfl ?_ | refine sta HB rfl rfl ?_ | refine Kx.stc HB rfl rfl ?_ | refine Kx.stt HB rfl rfl rfl ?_ | refine Kx.st1 HB rfl rfl rfl ?_); clear HB; intro w_ HB)))
  go_ret
  exact ⟨rfl,HB.out.below⟩
 obtain ⟨N,hN⟩ : ∃ N:Nat,c.targets = (N:Int):=⟨c.targets.toNat,by have:=hn.1.targets; omega⟩
 have HNw:=Lib.hid (fun (W:World) (L:List (Nat × List Value)) (r':List Rw) (q:Bxs w W L r' F0) => New_y q c xs 1 N HF.out HL.out hn hN)
 have hN16:N ≤ 16:=by have:=hn.1.targets.2; omega
 have hcl:0 ≤ c.l ∧ c.l ≤ 1048576:=by have:=hn.1.l; omega
 have hcm:0 ≤ c.m ∧ c.m ≤ 1048576:=hn.1.m
 have hcs:0 ≤ c.s ∧ c.s ≤ 1048576:=by have:=hn.1.s; omega
 have HCf:Hid (∀ A2 c2,zem { c with ta:=A2,tn:=c.tn,tc:=c2 } xs):=Lib.hid (fun A2 c2 => hn.1.re)
 have HN:=Lib.hid hN
 clear hc ht hn hN
 by_cases hgr:150 < (len:Int)
 ·have HG:=Lib.hid (zgd A len cap true (decide_eq_true hgr))
  clear hgr HFo HAt HRd HLen HT
  go_enter Tryz.func6,Tryz.ntmps6
  go_wp2_with (first | (go_at_call 8; refine Calls.mono (HHd.out _ HB.out.below) ?_; rintro e w_ ⟨rfl,hb_⟩; replace HB:=Lib.hid (HB.out.call hb_); clear hb_) | (go_at_call 9; fail) | (first | ((with_reducible refine zai HB ?_); clear HB; intro w_ HB) | ((with_reducible refine zaf ?_); (first | refine boxa HB rfl ?_ | refine boxt HB rfl rfl ?_ | refine box1 HB rfl rfl ?_); clear HB; intro b_ w_ HB; refine Kx.fr ?_) | ((with_reducible refine zaa ?_); (first | refine ala HB ?_ | refine al1 HB ?_); clear HB; intro b_ w_ HB; refine Kx.fr ?_) | ((with_reducible refine zab ?_); first | refine Kx.l1 HB rfl rfl ?_ | refine Kx.la HB rfl ?_ | refine Kx.lo HB rfl HC.out ?_) | ((with_reducible refine zac ?_); first | refine l1g HB rfl rfl rfl ?_ | refine Kx.lag HB rfl rfl ?_ | refine Kx.log HB rfl HC.out rfl ?_) | ((with_reducible refine zad ?_); (first | refine stwa HB rfl rfl ?_ | refine sta HB rfl rfl ?_ | refine Kx.stc HB rfl rfl ?_ | refine Kx.stt HB rfl rfl rfl ?_ | refine Kx.st1 HB rfl rfl rfl ?_); clear HB; intro w_ HB)))
  refine (HNw.out _ _ _ HB.out).mono ?_
  rintro e w2 ⟨⟨ga,g,A2,c2,p⟩,rfl,HJ,hx,hf⟩
  dsimp only at HJ hx hf
  obtain ⟨ok,KA,KC,RA,RC,HB2⟩:=HJ
  clear HB
  have HB:=Lib.hid HB2
  clear HB2 hx hf ok
  go_wp2_with (first | (go_at_call 10; refine Calls.mono (HG.out _) ?_; rintro e w_ ⟨rfl,hb_⟩; replace HB:=Lib.hid (HB.out.call hb_); clear hb_) | (first | ((with_reducible refine zai HB ?_); clear HB; intro w_ HB) | ((with_reducible refine zaf ?_); (first | refine boxa HB rfl ?_ | refine boxt HB rfl rfl ?_ | refine box1 HB rfl rfl ?_); clear HB; intro b_ w_ HB; refine Kx.fr ?_) | ((with_reducible refine zaa ?_); (first | refine ala HB ?_ | refine al1 HB ?_); clear HB; intro b_ w_ HB; refine Kx.fr ?_) | ((with_reducible refine zab ?_); first | refine Kx.l1 HB rfl rfl ?_ | refine Kx.la HB rfl ?_ | refine Kx.lo HB rfl HC.out ?_) | ((with_reducible refine zac ?_); first | refine l1g HB rfl rfl rfl ?_ | refine Kx.lag HB rfl rfl ?_ | refine Kx.log HB rfl HC.out rfl ?_) | ((with_reducible refine zad ?_); (first | refine stwa HB rfl rfl ?_ | refine sta HB rfl rfl ?_ | refine Kx.stc HB rfl rfl ?_ | refine Kx.stt HB rfl rfl rfl ?_ | refine Kx.st1 HB rfl rfl rfl ?_); clear HB; intro w_ HB)))
  go_ret
  exact ⟨rfl,HB.out.below⟩
 have hle:len ≤ 150:=by omega
 have HG:=Lib.hid (zgd A len cap false (decide_eq_false hgr))
 clear hgr
 go_enter Tryz.func6,Tryz.ntmps6
 go_wp2_with (first | (go_at_call 8; refine Calls.mono (HHd.out _ HB.out.below) ?_; rintro e w_ ⟨rfl,hb_⟩; replace HB:=Lib.hid (HB.out.call hb_); clear hb_) | (go_at_call 9; fail) | (first | ((with_reducible refine zai HB ?_); clear HB; intro w_ HB) | ((with_reducible refine zaf (d:=some 3) ?_); (first | refine boxa HB rfl ?_ | refine boxt HB rfl rfl ?_ | refine box1 HB rfl rfl ?_); clear HB; intro b3 w_ HB; refine Kx.fr ?_) | ((with_reducible refine zaa (d:=some 3) ?_); (first | refine ala HB ?_ | refine al1 HB ?_); clear HB; intro b3 w_ HB; refine Kx.fr ?_) | ((with_reducible refine zaf ?_); (first | refine boxa HB rfl ?_ | refine boxt HB rfl rfl ?_ | refine box1 HB rfl rfl ?_); clear HB; intro b_ w_ HB; refine Kx.fr ?_) | ((with_reducible refine zaa ?_); (first | refine ala HB ?_ | refine al1 HB ?_); clear HB; intro b_ w_ HB; refine Kx.fr ?_) | ((with_reducible refine zab ?_); first | refine Kx.l1 HB rfl rfl ?_ | refine Kx.la HB rfl ?_ | refine Kx.lo HB rfl HC.out ?_) | ((with_reducible refine zac ?_); first | refine l1g HB rfl rfl rfl ?_ | refine Kx.lag HB rfl rfl ?_ | refine Kx.log HB rfl HC.out rfl ?_) | ((with_reducible refine zad ?_); (first | refine stwa HB rfl rfl ?_ | refine sta HB rfl rfl ?_ | refine Kx.stc HB rfl rfl ?_ | refine Kx.stt HB rfl rfl rfl ?_ | refine Kx.st1 HB rfl rfl rfl ?_); clear HB; intro w_ HB)))
 refine (HNw.out _ _ _ HB.out).mono ?_
 rintro e w2 ⟨⟨ga,g,A2,c2,p⟩,rfl,HJ,hx,hf⟩
 dsimp only at HJ hx hf
 obtain ⟨F1,hF1⟩ : ∃ F1,F1 = (p.A,i64s p.x.pen) :: (A2,i64s xs) :: F0:=⟨_,rfl⟩
 rw [←hF1] at HJ
 obtain ⟨c1,hc1⟩ : ∃ c1,c1 = ({ c with ta:=A2,tn:=c.tn,tc:=c2 }:Cf):=⟨_,rfl⟩
 rw [←hc1] at HJ
 have HC1:Hid (c1.l = c.l ∧ c1.m = c.m ∧ c1.s = c.s ∧ c1.targets = (N:Int) ∧ zem c1 xs ∧ xs.length = c1.tn ∧ (c1.ta,i64s xs) ∈ F1):=Lib.hid (by rw [hc1]; exact ⟨rfl,rfl,rfl,HN.out,HCf.out _ _,HL.out,by rw [hF1]; exact List.mem_cons_of_mem _ (List.mem_cons_self ..)⟩)
 have HFo2:Hid (∀ o ∈ os,∀ q ∈ mfz o.m.ms o.m.lo,q ∈ F1):=Lib.hid (fun o ho q hq => by rw [hF1]; exact List.mem_cons_of_mem _ (List.mem_cons_of_mem _ (HFo.out o ho q hq)))
 have HI0:Hid (LI (zp N) 1 c1 (0 * 8200) F1 F1 [] (newA c1 1 p) Jm.new):=Lib.hid ⟨⟨⟨hf,zkf hx (by rw [hF1]; exact List.mem_cons_self ..),by show p.x.right = true; rw [hx]; exact zg6 hN16 ⟨by decide,by decide⟩ ⟨by decide,by decide⟩⟩,.inl rfl,I0,I0,rfl,by show 0 ≤ c1.l ∧ c1.l ≤ 1048576; rw [HC1.out.1]; exact hcl,by show 0 ≤ c1.m ∧ c1.m ≤ 1048576; rw [HC1.out.2.1]; exact hcm⟩,.inl (JUp.new (by rw [zmf,hx])),Nat.le_refl _,rfl,fun q hq => hq⟩
 have HV0:Hid True:=Lib.hid True.intro
 obtain ⟨a0,ha0⟩ : ∃ a,a = newA c1 1 p:=⟨_,rfl⟩
 rw [←ha0] at HJ HI0
 obtain ⟨ok,KA,KC,RA,RC,HB2⟩:=HJ
 clear HB HNw HHd HF HFo hF1 ha0 hc1 HCf HN
 have HB:=Lib.hid HB2
 clear HB2 hx hf ok hN16
 go_wp2_with (first | (go_at_call 10; refine Calls.mono (HG.out _) ?_; rintro e w_ ⟨rfl,hb_⟩; replace HB:=Lib.hid (HB.out.call hb_); clear hb_) | (first | ((with_reducible refine zai HB ?_); clear HB; intro w_ HB) | ((with_reducible refine zaf ?_); (first | refine boxa HB rfl ?_ | refine boxt HB rfl rfl ?_ | refine box1 HB rfl rfl ?_); clear HB; intro b_ w_ HB; refine Kx.fr ?_) | ((with_reducible refine zaa ?_); (first | refine ala HB ?_ | refine al1 HB ?_); clear HB; intro b_ w_ HB; refine Kx.fr ?_) | ((with_reducible refine zab ?_); first | refine Kx.l1 HB rfl rfl ?_ | refine Kx.la HB rfl ?_ | refine Kx.lo HB rfl HC.out ?_) | ((with_reducible refine zac ?_); first | refine l1g HB rfl rfl rfl ?_ | refine Kx.lag HB rfl rfl ?_ | refine Kx.log HB rfl HC.out rfl ?_) | ((with_reducible refine zad ?_); (first | refine stwa HB rfl rfl ?_ | refine sta HB rfl rfl ?_ | refine Kx.stc HB rfl rfl ?_ | refine Kx.stt HB rfl rfl rfl ?_ | refine Kx.st1 HB rfl rfl rfl ?_); clear HB; intro w_ HB)))
 go_loopg [9] len (fun gh ix wr => ∃ (k:Nat) (a:Ac) (s:Jm.St) (rs:List Mm.Ms) (F:Fz),gh + k = len ∧ ix = .int .i64 (k:Int) ∧ Hid (LI (zp N) 1 c1 (k * 8200) F1 F rs a s) ∧ Hid (Jbx w wr g s [(ga,a.cells g),(b3,cf c)] [] F))
 case atStart => exact ⟨0,a0,Jm.new,[],F1,by omega,rfl,HI0,Lib.hid ⟨Jm.zng,_,_,_,_,HB.out⟩⟩
 case round =>
  clear HB HI0 HV0 HG
  obtain ⟨k,a,s,rs,F,hk,rfl,HI,HJ⟩:=hrel
  by_cases hlt:k < len
  ·obtain ⟨o,ho⟩ : ∃ o,os[k]? = some o:=⟨os[k]'(by rw [HLen.out]; exact hlt),List.getElem?_eq_getElem _⟩
   have hmem:=List.mem_of_getElem? ho
   obtain ⟨ad,rfl,hlt2,hcc⟩:=Rd.part Op.zd9 HRd.out ho (by decide)
   have d3:(k:Int) < (len:Int):=by omega
   have HC:=Lib.hid (fun j v (hj:o.cells[j]? = some v) => (by rw [addr_add_add]; exact hcc j v hj:w.cell? ((ad.add (k * 29)).add j) = some v))
   have HAo:=Lib.hid (HAt.out o hmem)
   have HWi:Hid (Within (mfz o.m.ms o.m.lo) F):=Lib.hid (fun q hq => .inr (HI.out.more q (HFo2.out o hmem q hq)))
   have hsz:Jm.size s ≤ 1230000:=by have h:=HI.out.sz; have h2:k * 8200 ≤ 150 * 8200:=Nat.mul_le_mul_right _ (by omega); omega
   have HSz:=Lib.hid hsz
   obtain ⟨ok,KA,KC,RA,RC,HB2⟩:=HJ.out
   have HB:=Lib.hid HB2
   have HOk:=Lib.hid ok
   clear HB2 ok hcc hmem ho HFo2 HAt HRd HLen hlt2 HJ hsz
   go_upto_region 9 with (first | ((with_reducible refine zao ?_); (refine zev rfl 39 _ rfl _ rfl o.cells _ (fun j v hv => HB.out.old (HC.out j v hv)) Tryz.underlying39 rfl hio ?_)) | (first | ((with_reducible refine zai HB ?_); clear HB; intro w_ HB) | ((with_reducible refine zaf (d:=some 10) ?_); (first | refine boxa HB rfl ?_ | refine boxt HB rfl rfl ?_ | refine box1 HB rfl rfl ?_); clear HB; intro b10 w_ HB; refine Kx.fr ?_) | ((with_reducible refine zaa (d:=some 10) ?_); (first | refine ala HB ?_ | refine al1 HB ?_); clear HB; intro b10 w_ HB; refine Kx.fr ?_) | ((with_reducible refine zaf ?_); (first | refine boxa HB rfl ?_ | refine boxt HB rfl rfl ?_ | refine box1 HB rfl rfl ?_); clear HB; intro b_ w_ HB; refine Kx.fr ?_) | ((with_reducible refine zaa ?_); (first | refine ala HB ?_ | refine al1 HB ?_); clear HB; intro b_ w_ HB; refine Kx.fr ?_) | ((with_reducible refine zab ?_); first | refine Kx.l1 HB rfl rfl ?_ | refine Kx.la HB rfl ?_ | refine Kx.lo HB rfl HC.out ?_) | ((with_reducible refine zac ?_); first | refine l1g HB rfl rfl rfl ?_ | refine Kx.lag HB rfl rfl ?_ | refine Kx.log HB rfl HC.out rfl ?_) | ((with_reducible refine zad ?_); (first | refine stwa HB rfl rfl ?_ | refine sta HB rfl rfl ?_ | refine Kx.stc HB rfl rfl ?_ | refine Kx.stt HB rfl rfl rfl ?_ | refine Kx.st1 HB rfl rfl rfl ?_); clear HB; intro w_ HB)))
   have HJ:=Lib.hid (Jbx.box HOk.out HB.out).swap
   clear HB HOk HC KA KC RA RC
   obtain ⟨ok,KA,KC,RA,RC,HB2⟩:=HJ.out
   have HB:=Lib.hid HB2
   have HOk:=Lib.hid ok
   clear HB2 ok
   obtain ⟨V,hV⟩ : ∃ V,bits BinOp.and IntKind.i64 o.what 3 = V:=⟨_,rfl⟩
   by_cases v0:V = 0
   ·have e0:(V == 0) = true:=beq_iff_eq.2 v0
    clear v0
    obtain ⟨R,hR⟩ : ∃ R,handle a s o.m.ms o.m.lo o.now = R:=⟨_,rfl⟩
    obtain ⟨rs',hst⟩:=zk4 (now:=o.now) HI.out.inv HI.out.ji (Mg.msOk HAo.out.m) HWi.out
    rw [hR] at hst
    have HLi:=Lib.hid (HI.out.handle (show Pm.I o.m.ms.b from HAo.out.m.b) hst)
    have HCl:Hid (Calls Tryz.prog 15 #[.pointer (some ⟨ga,0,none⟩),.agg o.m.cells.toArray,.int .i64 o.now] w_ fun e w' => Outs w w' ga g [(b10,o.cells),(b3,cf c)] [] F R e):=Lib.hid (by
     rw [←hR]
     exact zd7 HJ.out HI.out.inv.ok o.m.ms o.m.lo o.now (Mg.msOk HAo.out.m) HWi.out HT.out.1 HT.out.2 (Nat.le_trans HSz.out (by decide)))
    clear hR hst HI HWi HSz HC1 HT HAo
    obtain ⟨a1,s1,o1⟩:=R
    go_wp2_with (first | (go_at_call 15; fail) | (first | ((with_reducible refine zai HB ?_); clear HB; intro w_ HB) | ((with_reducible refine zab ?_); first | refine Kx.l1 HB rfl rfl ?_ | refine Kx.la HB rfl ?_) | ((with_reducible refine zac ?_); first | refine l1g HB rfl rfl rfl ?_ | refine Kx.lag HB rfl rfl ?_)))
    refine HCl.out.mono ?_
    clear HB HJ HOk
    cases o1 with
    | none =>
      rintro e w3 ⟨rfl,HJ3⟩
      have HJn:=Lib.hid HJ3
      obtain ⟨ok3,KA3,KC3,RA3,RC3,HB3⟩:=HJ3
      have HB:=Lib.hid HB3
      clear HB3 ok3 HCl
      go_wp2_with (first | ((with_reducible refine zai HB ?_); clear HB; intro w_ HB) | ((with_reducible refine zab ?_); first | refine Kx.l1 HB rfl rfl ?_ | refine Kx.la HB rfl ?_) | ((with_reducible refine zac ?_); first | refine l1g HB rfl rfl rfl ?_ | refine Kx.lag HB rfl rfl ?_))
      go_roundg (gk - 1)
      case measure => omega
      case rel => exact ⟨k + 1,a1,s1,rs',F,by omega,by go_num,Lib.hid (by have:=HLi.out; rwa [show (k + 1) * 8200 = k * 8200 + 8200 by omega]),Lib.hid (HJn.out.zbl)⟩
    | some q =>
      obtain ⟨x,lo⟩:=q
      rintro e w3 ⟨bx,rfl,HJ3⟩
      have HJn:=Lib.hid HJ3
      obtain ⟨ok3,KA3,KC3,RA3,RC3,HB3⟩:=HJ3
      have HB:=Lib.hid HB3
      clear HB3 ok3 HCl
      go_wp2_with (first | ((with_reducible refine zai HB ?_); clear HB; intro w_ HB) | ((with_reducible refine zab ?_); first | refine Kx.l1 HB rfl rfl ?_ | refine Kx.la HB rfl ?_) | ((with_reducible refine zac ?_); first | refine l1g HB rfl rfl rfl ?_ | refine Kx.lag HB rfl rfl ?_))
      go_roundg (gk - 1)
      case measure => omega
      case rel => exact ⟨k + 1,a1,s1,rs',F,by omega,by go_num,Lib.hid (by have:=HLi.out; rwa [show (k + 1) * 8200 = k * 8200 + 8200 by omega]),Lib.hid (HJn.out.tail.zbl)⟩
   have f0:(V == 0) = false:=beq_false_of_ne v0
   by_cases v1:V = 1
   ·have e1:(V == 1) = true:=beq_iff_eq.2 v1
    clear v0 v1
    go_upto_region 13 with (first | ((with_reducible refine zai HB ?_); clear HB; intro w_ HB) | ((with_reducible refine zab ?_); first | refine Kx.l1 HB rfl rfl ?_ | refine Kx.la HB rfl ?_) | ((with_reducible refine zac ?_); first | refine l1g HB rfl rfl rfl ?_ | refine Kx.lag HB rfl rfl ?_))
    refine Kx.zcy (fun w' => ∃ (s':Jm.St),Jbx w w' g s' [(ga,a.cells g),(b10,o.cells),(b3,cf c)] [] F) (fun w' => Jbx w w' g s [(ga,a.cells g),(b10,o.cells),(b3,cf c)] [] F) (fun i => false) (by kernel_rfl) (show Jbx w _ g s _ [] F from ⟨HOk.out,_,_,_,_,HB.out.drew⟩) ?_
    refine tkS 0 rfl (fun w' q => ⟨s,q⟩) ?_ (hC:=Jbx.bears)
    refine tkS 2 rfl (fun w' q => ⟨s,q⟩) ?_ (hC:=Jbx.bears)
    refine tkS 3 rfl (fun w' q => ⟨s,q⟩) ?_ (hC:=Jbx.bears) (v:=.int .i64 o.n) (hy:=fun w1 ⟨s',ok,KA,KC,RA,RC,hB⟩ => Kx.zav hB b10 28 rfl o.cells inferInstance (Tryz.isAgg3 _) rfl)
    refine Kx.zfg (ι:=Unit) 1 (fun _ => .pointer (some ⟨g,0,none⟩)) (fun _ w' => Jbx w w' g s [(ga,a.cells g),(b10,o.cells),(b3,cf c)] [] F) () rfl (fun _ => Jbx.bears) (fun _ w' q => ⟨s,q⟩) ?eFuse1 (fun w hw => zf7 hw) ?hFuse1
    case eFuse1 => (intro w hw; go_simp; try (first | (refine ⟨?_,?_⟩ <;> with_reducible rfl) | with_reducible rfl))
    intro _
    refine Kx.zfg (ι:=Unit) 4 (fun _ => .tuple #[]) (fun _ w' => Jbx w w' g (Jm.fuse s o.n) [(ga,a.cells g),(b10,o.cells),(b3,cf c)] [] F) () rfl (fun _ => Jbx.bears) (fun _ w' q => ⟨_,q⟩) ?eFuse2 (fun w hw => (fuse_x hw o.n HAo.out.n.2).mono fun e w' q => ⟨(),q.1,q.2⟩) ?hFuse2
    case eFuse2 => (intro w hw; go_simp; try (first | (refine ⟨?_,?_⟩ <;> with_reducible rfl) | with_reducible rfl))
    intro _
    refine zak (by kernel_rfl) ?_
    clear HB
    intro w_ HJ_
    have HJn:=Lib.hid HJ_
    obtain ⟨ok,KA,KC,RA,RC,HB2⟩:=HJ_
    have HB:=Lib.hid HB2
    clear HB2 ok HOk
    go_wp2_with (first | ((with_reducible refine zai HB ?_); clear HB; intro w_ HB) | ((with_reducible refine zab ?_); first | refine Kx.l1 HB rfl rfl ?_ | refine Kx.la HB rfl ?_) | ((with_reducible refine zac ?_); first | refine l1g HB rfl rfl rfl ?_ | refine Kx.lag HB rfl rfl ?_))
    go_roundg (gk - 1)
    case measure => omega
    case rel => exact ⟨k + 1,a,Jm.fuse s o.n,rs,F,by omega,by go_num,Lib.hid (by have:=HI.out.fuse o.n; rwa [show (k + 1) * 8200 = k * 8200 + 8200 by omega]),Lib.hid (HJn.out.zbl)⟩
   have f1:(V == 1) = false:=beq_false_of_ne v1
   by_cases v2:V = 2
   ·have e2:(V == 2) = true:=beq_iff_eq.2 v2
    clear v0 v1 v2
    go_upto_region 15 with (first | ((with_reducible refine zai HB ?_); clear HB; intro w_ HB) | ((with_reducible refine zab ?_); first | refine Kx.l1 HB rfl rfl ?_ | refine Kx.la HB rfl ?_) | ((with_reducible refine zac ?_); first | refine l1g HB rfl rfl rfl ?_ | refine Kx.lag HB rfl rfl ?_))
    refine Kx.zcy (fun w' => ∃ (s':Jm.St),Jbx w w' g s' [(ga,a.cells g),(b10,o.cells),(b3,cf c)] [] F) (fun w' => Jbx w w' g s [(ga,a.cells g),(b10,o.cells),(b3,cf c)] [] F) (fun i => false) (by kernel_rfl) (show Jbx w _ g s _ [] F from ⟨HOk.out,_,_,_,_,HB.out.drew⟩) ?_
    refine tkS 0 rfl (fun w' q => ⟨s,q⟩) ?_ (hC:=Jbx.bears)
    refine tkS 2 rfl (fun w' q => ⟨s,q⟩) ?_ (hC:=Jbx.bears)
    refine tkS 3 rfl (fun w' q => ⟨s,q⟩) ?_ (hC:=Jbx.bears) (v:=.int .i64 o.n) (hy:=fun w1 ⟨s',ok,KA,KC,RA,RC,hB⟩ => Kx.zav hB b10 28 rfl o.cells inferInstance (Tryz.isAgg3 _) rfl)
    refine Kx.zfg (ι:=Unit) 1 (fun _ => .pointer (some ⟨g,0,none⟩)) (fun _ w' => Jbx w w' g s [(ga,a.cells g),(b10,o.cells),(b3,cf c)] [] F) () rfl (fun _ => Jbx.bears) (fun _ w' q => ⟨s,q⟩) ?eCrash1 (fun w hw => zf7 hw) ?hCrash1
    case eCrash1 => (intro w hw; go_simp; try (first | (refine ⟨?_,?_⟩ <;> with_reducible rfl) | with_reducible rfl))
    intro _
    refine Kx.zfg (ι:=Unit) 4 (fun _ => .tuple #[]) (fun _ w' => Jbx w w' g (Jm.crash s o.n) [(ga,a.cells g),(b10,o.cells),(b3,cf c)] [] F) () rfl (fun _ => Jbx.bears) (fun _ w' q => ⟨_,q⟩) ?eCrash2 (fun w hw => (zmr hw o.n (Nat.le_trans HSz.out (by decide))).mono fun e w' q => ⟨(),q.1,q.2⟩) ?hCrash2
    case eCrash2 => (intro w hw; go_simp; try (first | (refine ⟨?_,?_⟩ <;> with_reducible rfl) | with_reducible rfl))
    intro _
    refine zak (by kernel_rfl) ?_
    clear HB
    intro w_ HJ_
    have HJn:=Lib.hid HJ_
    obtain ⟨ok,KA,KC,RA,RC,HB2⟩:=HJ_
    have HB:=Lib.hid HB2
    clear HB2 ok HOk
    rcases HI.out.ji.crash o.n with hd | ⟨x,hx,hxn,hd⟩
    ·have HD:=Lib.hid hd
     clear hd
     go_wp2_with (first | ((with_reducible refine zai HB ?_); clear HB; intro w_ HB) | ((with_reducible refine zab ?_); first | refine Kx.l1 HB rfl rfl ?_ | refine Kx.la HB rfl ?_) | ((with_reducible refine zac ?_); first | refine l1g HB rfl rfl rfl ?_ | refine Kx.lag HB rfl rfl ?_))
     go_roundg (gk - 1)
     case measure => omega
     case rel => exact ⟨k + 1,a,Jm.crash s o.n,rs,F,by omega,by go_num,Lib.hid (by have:=HI.out.crash o.n HD.out; rwa [show (k + 1) * 8200 = k * 8200 + 8200 by omega]),Lib.hid (HJn.out.zbl)⟩
    ·have HD:=Lib.hid hd
     clear hd hx hxn
     go_wp2_with (first | ((with_reducible refine zai HB ?_); clear HB; intro w_ HB) | ((with_reducible refine zab ?_); first | refine Kx.l1 HB rfl rfl ?_ | refine Kx.la HB rfl ?_) | ((with_reducible refine zac ?_); first | refine l1g HB rfl rfl rfl ?_ | refine Kx.lag HB rfl rfl ?_))
     go_roundg (gk - 1)
     case measure => omega
     case rel => exact ⟨k + 1,a,Jm.crash s o.n,rs ++ [x],F,by omega,by go_num,Lib.hid (by have:=HI.out.crash o.n HD.out; rwa [show (k + 1) * 8200 = k * 8200 + 8200 by omega]),Lib.hid (HJn.out.zbl)⟩
   have f2:(V == 2) = false:=beq_false_of_ne v2
   by_cases v3:V = 3
   ·have e3:(V == 3) = true:=beq_iff_eq.2 v3
    have HRs:=Lib.hid (zic HJ.out HI.out.inv xs N (by rw [HI.out.c]; exact fun q hq => .inr (by rw [List.mem_singleton.1 hq]; exact HI.out.more _ HC1.out.2.2.2.2.2.2)) (by rw [HI.out.c]; exact HC1.out.2.2.2.2.2.1) (by rw [HI.out.c]; exact HC1.out.2.2.2.2.1) (by rw [HI.out.c]; exact HC1.out.2.2.2.1) rs HI.out.ji (Nat.le_trans HSz.out (by decide)) HT.out.1 HT.out.2 o.now)
    clear v0 v1 v2 v3
    go_wp2_with (first | (go_at_call 14; fail) | (first | ((with_reducible refine zai HB ?_); clear HB; intro w_ HB) | ((with_reducible refine zab ?_); first | refine Kx.l1 HB rfl rfl ?_ | refine Kx.la HB rfl ?_) | ((with_reducible refine zac ?_); first | refine l1g HB rfl rfl rfl ?_ | refine Kx.lag HB rfl rfl ?_)))
    refine HRs.out.mono ?_
    rintro e w3 ⟨a',F',er,rfl,HJ3,hst⟩
    have HJn:=Lib.hid HJ3
    have HSt:=Lib.hid hst
    obtain ⟨ok3,KA3,KC3,RA3,RC3,HB3⟩:=HJ3
    clear HB hst
    have HB:=Lib.hid HB3
    clear HB3 ok3 HRs HJ
    go_wp2_with (first | ((with_reducible refine zai HB ?_); clear HB; intro w_ HB) | ((with_reducible refine zab ?_); first | refine Kx.l1 HB rfl rfl ?_ | refine Kx.la HB rfl ?_) | ((with_reducible refine zac ?_); first | refine l1g HB rfl rfl rfl ?_ | refine Kx.lag HB rfl rfl ?_))
    go_roundg (gk - 1)
    case measure => omega
    case rel => exact ⟨k + 1,a',(Jm.opn s).1,rs,F',by omega,by go_num,Lib.hid (by have:=HI.out.rst HSt.out; rwa [show (k + 1) * 8200 = k * 8200 + 8200 by omega]),Lib.hid (HJn.out.zbl)⟩
   have f3:(V == 3) = false:=beq_false_of_ne v3
   have HLi:Hid (LI (zp N) 1 c1 (k * 8200 + 8200) F1 F rs a s):=Lib.hid ⟨HI.out.inv,HI.out.ji,Nat.le_trans HI.out.sz (Nat.le_add_right ..),HI.out.c,HI.out.more⟩
   clear v0 v1 v2 v3
   go_wp2_with (first | ((with_reducible refine zai HB ?_); clear HB; intro w_ HB) | ((with_reducible refine zab ?_); first | refine Kx.l1 HB rfl rfl ?_ | refine Kx.la HB rfl ?_) | ((with_reducible refine zac ?_); first | refine l1g HB rfl rfl rfl ?_ | refine Kx.lag HB rfl rfl ?_))
   go_roundg (gk - 1)
   case measure => omega
   case rel => exact ⟨k + 1,a,s,rs,F,by omega,by go_num,Lib.hid (by have:=HLi.out; rwa [show (k + 1) * 8200 = k * 8200 + 8200 by omega]),Lib.hid (Jbx.zbl (p:=(ga,a.cells g)) (q:=(b10,o.cells)) ⟨HOk.out,_,_,_,_,HB.out⟩)⟩
  ·obtain rfl:k = len:=by omega
   have d0:decide ((k:Int) < (k:Int)) = false:=by simp
   have hsz:Jm.size s ≤ 1230000:=by have h:=HI.out.sz; have h2:k * 8200 ≤ 150 * 8200:=Nat.mul_le_mul_right _ (by omega); omega
   have HSz:=Lib.hid hsz
   obtain ⟨ok,KA,KC,RA,RC,HB2⟩:=HJ.out
   have HB:=Lib.hid HB2
   have HOk:=Lib.hid ok
   clear HB2 ok HJ HFo2 HAt HRd HLen hsz hlt
   go_wp2_with (first | (go_at_call 11; refine (zel (ga:=ga) (a:=a) (g:=g) HB.out).mono ?_; rintro e w_ ⟨rfl,hb_⟩; replace HB:=Lib.hid (HB.out.call hb_); clear hb_) | (go_at_call 17; fail) | (first | ((with_reducible refine zai HB ?_); clear HB; intro w_ HB) | ((with_reducible refine zab ?_); first | refine Kx.l1 HB rfl rfl ?_ | refine Kx.la HB rfl ?_) | ((with_reducible refine zac ?_); first | refine l1g HB rfl rfl rfl ?_ | refine Kx.lag HB rfl rfl ?_)))
   refine (zq1 (g:=g) (s:=s) (l:=[(ga,a.cells g),(b3,cf c)]) (r:=[]) (F:=F) ⟨HOk.out,KA,KC,RA,RC,HB.out⟩).mono ?_
   rintro e w9 ⟨rfl,rfl⟩
   cases hoff:s.off with
   | true =>
     clear HI HT HC1 HSz
     go_wp2_with (first | ((with_reducible refine zai HB ?_); clear HB; intro w_ HB) | ((with_reducible refine zab ?_); first | refine Kx.l1 HB rfl rfl ?_ | refine Kx.la HB rfl ?_) | ((with_reducible refine zac ?_); first | refine l1g HB rfl rfl rfl ?_ | refine Kx.lag HB rfl rfl ?_))
     go_ret
     exact ⟨rfl,HB.out.below⟩
   | false =>
     have hju:JUp (zp N) s rs a:=HI.out.ji.resolve_right (fun q => by have:=q.off; rw [hoff] at this; cases this)
     obtain ⟨hd,hopn⟩:=hju.crashed 0
     have HJu:=Lib.hid hju
     have HLc:=Lib.hid (HI.out.crash 0 hd)
     have HSz1:Hid (Jm.size (Jm.crash s 0) ≤ 1230000):=Lib.hid (Nat.le_trans (Jm.zio s 0) HSz.out)
     have HOp:=Lib.hid hopn
     have HCr:Hid (∀ {W:World} {L:List (Nat × List Value)},Jbx w W g s L [] F → Calls Tryz.prog 13 #[.pointer (some ⟨g,0,none⟩),.int .i64 0] W fun e w' => e = .returned (.tuple #[]) ∧ Jbx w w' g (Jm.crash s 0) L [] F):=Lib.hid (fun q => zmr q 0 (Nat.le_trans HSz.out (by decide)))
     have hof1:(Jm.crash s 0).off = true:=rfl
     generalize Jm.crash s 0 = s1 at *
     clear hju hd hopn hoff HSz HI
     go_wp2_with (first | (go_at_call 16; refine (zib (ga:=ga) (a:=a) (g:=g) HB.out).mono ?_; rintro e w_ ⟨rfl,hb_⟩; replace HB:=Lib.hid hb_; clear hb_) | (go_at_call 11; refine (zel (ga:=ga) (a:=a) (g:=g) HB.out).mono ?_; rintro e w_ ⟨rfl,hb_⟩; replace HB:=Lib.hid (HB.out.call hb_); clear hb_) | (go_at_call 13; fail) | (first | ((with_reducible refine zai HB ?_); clear HB; intro w_ HB) | ((with_reducible refine zaf (d:=some 14) ?_); (first | refine boxa HB rfl ?_ | refine boxt HB rfl rfl ?_ | refine box1 HB rfl rfl ?_); clear HB; intro b14 w_ HB; refine Kx.fr ?_) | ((with_reducible refine zaa (d:=some 14) ?_); (first | refine ala HB ?_ | refine al1 HB ?_); clear HB; intro b14 w_ HB; refine Kx.fr ?_) | ((with_reducible refine zaf ?_); (first | refine boxa HB rfl ?_ | refine boxt HB rfl rfl ?_ | refine box1 HB rfl rfl ?_); clear HB; intro b_ w_ HB; refine Kx.fr ?_) | ((with_reducible refine zaa ?_); (first | refine ala HB ?_ | refine al1 HB ?_); clear HB; intro b_ w_ HB; refine Kx.fr ?_) | ((with_reducible refine zab ?_); first | refine Kx.l1 HB rfl rfl ?_ | refine Kx.la HB rfl ?_ | refine Kx.lo HB rfl HC.out ?_) | ((with_reducible refine zac ?_); first | refine l1g HB rfl rfl rfl ?_ | refine Kx.lag HB rfl rfl ?_ | refine Kx.log HB rfl HC.out rfl ?_) | ((with_reducible refine zad ?_); (first | refine stwa HB rfl rfl ?_ | refine sta HB rfl rfl ?_ | refine Kx.stc HB rfl rfl ?_ | refine Kx.stt HB rfl rfl rfl ?_ | refine Kx.st1 HB rfl rfl rfl ?_); clear HB; intro w_ HB)))
     refine (HCr.out (W:=w_) (L:=[(ga,a.cells g),(b14,a.spl.cells),(b3,cf c)]) ?hjb).mono ?_
     case hjb => exact (Jbx.box (p:=(b14,a.spl.cells)) HOk.out HB.out).swap
     rintro e w4 ⟨rfl,HJ4⟩
     have HH:Hid (∀ {W:World} {L:List (Nat × List Value)},Jbx w W g s1 ((ga,a.cells g) :: L) [] F → Calls Tryz.prog 15 #[.pointer (some ⟨ga,0,none⟩),.agg (mvs askM Lo.zero).toArray,.int .i64 5] W fun e w' => e = .returned (.slice none 0 0) ∧ Jbx w w' g s1 ((ga,a.cells g) :: L) [] F):=Lib.hid (fun q => by
      have h:=zd7 q HLc.out.inv.ok askM Lo.zero 5 (zqe zku (k:=10) (e:=1099511627776) (b:=0) (ac:=0) (n:=0) (co:=1) (has:=false) ⟨by decide,by decide⟩ ⟨by decide,by decide⟩ I0 I0 I0 ⟨by decide,by decide⟩) (mk_in zqb) HT.out.1 HT.out.2 (Nat.le_trans HSz1.out (by decide))
      rw [zdd (fun q2 => by have:=q2.2.2.2; rw [hof1] at this; cases this)] at h
      exact h)
     have HHc:=Lib.hid (HH.out HJ4)
     have HOk4:=Lib.hid HJ4.1
     obtain ⟨ok4,KA4,KC4,RA4,RC4,HB4⟩:=HJ4
     clear HB ok4 HCr HOk HH
     have HB:=Lib.hid HB4
     clear HB4
     go_wp2_with (first | (go_at_call 15; fail) | ((with_reducible refine Kx.za6 ?_); refine Km.wpList_build rfl 37 _ rfl #[(0,.int .i64 10),(3,.int .i64 1099511627776),(9,.int .i64 1)] (by first | rfl | (go_simp; try rfl)) (mvs askM Lo.zero).toArray (zow) ?_; refine Kx.framed ?_ (by simp only [Act.put,List.setIfInBounds_toArray,List.set_cons_succ,List.set_cons_zero] <;> rfl)) | (first | ((with_reducible refine zai HB ?_); clear HB; intro w_ HB) | ((with_reducible refine zab ?_); first | refine Kx.l1 HB rfl rfl ?_ | refine Kx.la HB rfl ?_) | ((with_reducible refine zac ?_); first | refine l1g HB rfl rfl rfl ?_ | refine Kx.lag HB rfl rfl ?_)))
     refine HHc.out.mono ?_
     rintro e w5 ⟨rfl,HJ5⟩
     have HRs:=Lib.hid (zic HJ5 HLc.out.inv xs N (by rw [HLc.out.c]; exact fun q hq => .inr (by rw [List.mem_singleton.1 hq]; exact HLc.out.more _ HC1.out.2.2.2.2.2.2)) (by rw [HLc.out.c]; exact HC1.out.2.2.2.2.2.1) (by rw [HLc.out.c]; exact HC1.out.2.2.2.2.1) (by rw [HLc.out.c]; exact HC1.out.2.2.2.1) rs HLc.out.ji (Nat.le_trans HSz1.out (by decide)) HT.out.1 HT.out.2 a3)
     obtain ⟨ok5,KA5,KC5,RA5,RC5,HB5⟩:=HJ5
     clear HB ok5 HHc
     have HB:=Lib.hid HB5
     clear HB5
     go_wp2_with (first | (go_at_call 14; fail) | (first | ((with_reducible refine zai HB ?_); clear HB; intro w_ HB) | ((with_reducible refine zab ?_); first | refine Kx.l1 HB rfl rfl ?_ | refine Kx.la HB rfl ?_) | ((with_reducible refine zac ?_); first | refine l1g HB rfl rfl rfl ?_ | refine Kx.lag HB rfl rfl ?_)))
     refine HRs.out.mono ?_
     rintro e w6 ⟨a',F',er,rfl,HJ6,hst⟩
     have her:er = 0:=Decidable.byContradiction fun q => by
      have:=(hst.no q).1.off
      rw [HOp.out] at this; cases this
     have hco:a.co = a'.co:=by rw [HJu.out.co,(hst.yes her).1.co]
     obtain ⟨q1,q2,q3,q4⟩:=spl_co hco
     have HIn:=Lib.hid hst.inv
     have HMo:=Lib.hid hst.more
     have HSm:Hid (∀ {W:World} {L:List (Nat × List Value)} {r':List Rw},Bxs w W L r' F' → Calls Tryz.prog 18 #[.agg a.spl.cells.toArray,.agg a'.spl.cells.toArray] W fun e w' => e = .returned (.bool true) ∧ Below W.heap.size W w'):=Lib.hid (fun q => PSame_eq a.spl a'.spl q4 _ (spl_at (HLc.out.inv.more HMo.out) q) (spl_at HIn.out q) (zph HLc.out.inv))
     obtain ⟨ok6,KA6,KC6,RA6,RC6,HB6⟩:=HJ6
     have g1:(a.e == a'.e) = true:=beq_iff_eq.2 q1
     have g2:(a.pr == a'.pr) = true:=beq_iff_eq.2 q2
     have g3:(a.ac == a'.ac) = true:=beq_iff_eq.2 q3
     subst her
     clear HB ok6 HRs hst hco q1 q2 q3 q4 HLc HJu HIn HMo
     have HB:=Lib.hid HB6
     clear HB6
     go_wp2_with (first | (go_at_call 16; refine (zib (ga:=ga) (a:=a') (g:=g) HB.out).mono ?_; rintro e w_ ⟨rfl,hb_⟩; replace HB:=Lib.hid hb_; clear hb_) | (go_at_call 18; refine Calls.mono (HSm.out HB.out) ?_; rintro e w_ ⟨rfl,hb_⟩; replace HB:=Lib.hid (HB.out.call hb_); clear hb_) | (first | ((with_reducible refine zai HB ?_); clear HB; intro w_ HB) | ((with_reducible refine zaf (d:=some 18) ?_); (first | refine boxa HB rfl ?_ | refine boxt HB rfl rfl ?_ | refine box1 HB rfl rfl ?_); clear HB; intro b18 w_ HB; refine Kx.fr ?_) | ((with_reducible refine zaa (d:=some 18) ?_); (first | refine ala HB ?_ | refine al1 HB ?_); clear HB; intro b18 w_ HB; refine Kx.fr ?_) | ((with_reducible refine zaf ?_); (first | refine boxa HB rfl ?_ | refine boxt HB rfl rfl ?_ | refine box1 HB rfl rfl ?_); clear HB; intro b_ w_ HB; refine Kx.fr ?_) | ((with_reducible refine zaa ?_); (first | refine ala HB ?_ | refine al1 HB ?_); clear HB; intro b_ w_ HB; refine Kx.fr ?_) | ((with_reducible refine zab ?_); first | refine Kx.l1 HB rfl rfl ?_ | refine Kx.la HB rfl ?_ | refine Kx.lo HB rfl HC.out ?_) | ((with_reducible refine zac ?_); first | refine l1g HB rfl rfl rfl ?_ | refine Kx.lag HB rfl rfl ?_ | refine Kx.log HB rfl HC.out rfl ?_) | ((with_reducible refine zad ?_); (first | refine stwa HB rfl rfl ?_ | refine sta HB rfl rfl ?_ | refine Kx.stc HB rfl rfl ?_ | refine Kx.stt HB rfl rfl rfl ?_ | refine Kx.st1 HB rfl rfl rfl ?_); clear HB; intro w_ HB)))
     go_ret
     exact ⟨rfl,HB.out.below⟩
end Go.Proofs.YteebjplkkglfjaaGreatDoor
