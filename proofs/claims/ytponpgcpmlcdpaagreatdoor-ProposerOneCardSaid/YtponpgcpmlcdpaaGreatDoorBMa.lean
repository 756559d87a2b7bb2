import Derived.Test.YtponpgcpmlcdpaaGreatDoorBMm
import Derived.Test.YtponpgcpmlcdpaaGreatDoorKitF
import Derived.Test.YtponpgcpmlcdpaaGreatDoorBPb
import Derived.Lib.AppendZeros
set_option maxRecDepth 100000
namespace Go.Proofs.YtponpgcpmlcdpaaGreatDoor
open Go.RowKit Go.Shelf
structure Lo where
 A1:Option Addr
 n1:Nat
 c1:Nat
 A2:Option Addr
 n2:Nat
 c2:Nat
 A3:Option Addr
 n3:Nat
 c3:Nat
 A4:Option Addr
 n4:Nat
 c4:Nat
 A5:Option Addr
 n5:Nat
 c5:Nat
def Lo.zero:Lo:=⟨none,0,0,none,0,0,none,0,0,none,0,0,none,0,0⟩
def mvs (x:Mm.Ms) (l:Lo):List Value :=
 [.int .i64 x.k,.int .i64 x.f,.int .i64 x.t,.int .i64 x.e,.int .i64 x.b,.int .i64 x.a,.int .i64 x.n,.int .i64 x.ti,.int .u64 x.up,.int .i64 x.co,.bool x.has] ++
  (pvs x.plan l.A1 l.n1 l.c1 l.A2 l.n2 l.c2++[.slice l.A3 l.n3 l.c3,.slice l.A4 l.n4 l.c4,.slice l.A5 l.n5 l.c5])
def mv (x:Mm.Ms) (l:Lo):Value:=.agg (mvs x l).toArray
theorem zmx (x:Mm.Ms) (l:Lo):(mvs x l).length=26:=rfl
structure MsAt (w:World) (B:Nat) (x:Mm.Ms) (l:Lo):Prop where
 ok:x.Ok
 pl:PlAt w B x.plan l.A1 l.n1 l.c1 l.A2 l.n2 l.c2
 r3:Rd w B l.A3 (i64s x.id)
 l3:x.id.length=l.n3
 c3:l.n3≤l.c3
 m3:l.c3≤maxLen
 r4:Rd w B l.A4 (u8s x.se)
 l4:x.se.length=l.n4
 c4:l.n4≤l.c4
 m4:l.c4≤maxLen
 r5:Rd w B l.A5 (u8s x.pa)
 l5:x.pa.length=l.n5
 c5:l.n5≤l.c5
 m5:l.c5≤maxLen
theorem MsAt.below {w w':World} {B B':Nat} {x:Mm.Ms} {l:Lo} (h:MsAt w B x l) (hb:Below B' w w') (hB:B≤B'):MsAt w' B x l :=
 ⟨h.ok,h.pl.below hb hB,h.r3.below (hb.mono hB),h.l3,h.c3,h.m3,h.r4.below (hb.mono hB),h.l4,h.c4,h.m4,h.r5.below (hb.mono hB),h.l5,h.c5,h.m5⟩
theorem MsAt.more {w:World} {B B':Nat} {x:Mm.Ms} {l:Lo} (h:MsAt w B x l) (hB:B≤B'):MsAt w B' x l :=
 ⟨h.ok,h.pl.more hB,h.r3.more hB,h.l3,h.c3,h.m3,h.r4.more hB,h.l4,h.c4,h.m4,h.r5.more hB,h.l5,h.c5,h.m5⟩
theorem PlAt.zero (w:World) (B:Nat):PlAt w B Pm.zero none 0 0 none 0 0:=⟨Pm.zfh,Rd.nil _ _ _,rfl,Nat.le_refl _,Nat.zero_le _,Rd.nil _ _ _,rfl,Nat.le_refl _,Nat.zero_le _⟩
theorem MsAt.zero (w:World) (B:Nat):MsAt w B Mm.zero Lo.zero :=
 ⟨Mm.zfh,PlAt.zero w B,Rd.nil _ _ _,rfl,Nat.le_refl _,Nat.zero_le _,Rd.nil _ _ _,rfl,Nat.le_refl _,Nat.zero_le _,Rd.nil _ _ _,rfl,Nat.le_refl _,Nat.zero_le _⟩
theorem zje {w:World} {b o:Nat} {xs ys zs:List Value} (h:w.rangeAt b o (xs++(ys++zs))):w.rangeAt b (o+xs.length) ys:=fun j v hv=>by
 have hj:=(List.getElem?_eq_some_iff.1 hv).1
 have:=h (xs.length+j) v (by rw [List.getElem?_append_right (Nat.le_add_right _ _),Nat.add_sub_cancel_left,List.getElem?_append_left hj];exact hv)
 rw [←Nat.add_assoc] at this
 exact this
theorem zdf {w w':World} {b o B:Nat} {cs:List Value} (h:w.rangeAt b o cs) (hb:Below B w w') (hB:b < B):w'.rangeAt b o cs:=fun j v hv=>by
 rw [hb.cell (by exact hB)];exact h j v hv
theorem zct (w:World) (cs:List Value) (t:TypeId):(w.alloc (.cells cs.toArray t)).rangeAt w.heap.size 0 cs:=fun j v hv=>by
 obtain ⟨ad,e,_,hc⟩:=(Rd.new w (w.heap.size+1) cs t (0,0) (by omega)) j v hv
 cases e
 rw [Addr.add_mid] at hc
 exact hc
theorem ze0 {w:World} {b:Nat} {cs:List Value} (h:w.rangeAt b 0 cs) (j:Nat) {v:Value} (hv:cs[j]? = some v):w.cell? ⟨b,j,none⟩=some v:=by
 have:=h j v hv
 rwa [Nat.zero_add] at this
def Mx (w:World) (b:Nat) (x:Mm.Ms) (l:Lo):Prop:=w.rangeAt b 0 (mvs x l)
section
variable {w w':World} {b:Nat} {x:Mm.Ms} {l:Lo}
theorem Mx.at (h:Mx w b x l) (j:Nat) {v:Value} (hv:(mvs x l)[j]? = some v):w.cell? ⟨b,j,none⟩=some v:=ze0 h j hv
theorem Mx.below {B:Nat} (h:Mx w b x l) (hb:Below B w w') (hB:b < B):Mx w' b x l:=zdf h hb hB
theorem Mx.new (w:World) (x:Mm.Ms) (l:Lo) (t:TypeId):Mx (w.alloc (.cells (mvs x l).toArray t)) w.heap.size x l:=zct w _ t
theorem Mx.plan (h:Mx w b x l):w.rangeAt b 11 (pvs x.plan l.A1 l.n1 l.c1 l.A2 l.n2 l.c2):=by
 have:=zje h
 rwa [Nat.zero_add] at this
theorem Mx.id (h:Mx w b x l):w.cell? ⟨b,23,none⟩=some (.slice l.A3 l.n3 l.c3):=h.at 23 rfl
theorem Mx.se (h:Mx w b x l):w.cell? ⟨b,24,none⟩=some (.slice l.A4 l.n4 l.c4):=h.at 24 rfl
theorem Mx.pa (h:Mx w b x l):w.cell? ⟨b,25,none⟩=some (.slice l.A5 l.n5 l.c5):=h.at 25 rfl
end
theorem zij (w:World) (o o':Obj) {b:Nat} (h:b=w.heap.size):((w.alloc o).alloc o').heap[b]? = some o:=by
 subst h
 rw [Below.heap_alloc _ _ _ (by rw [World.size_alloc];omega)]
 exact World.alloc_heap_new w o
theorem zbn:(Tryz.prog.info? 37).map (·.size)=some 26:=by kernel_rfl
theorem zbi:(Tryz.prog.info? 126).map (·.size)=some 10:=by kernel_rfl
theorem zq3 (x:Mm.Ms) (l:Lo):(Tryz.prog.info? 37).map (·.size)=some (mvs x l).length:=zbn
theorem zgw (n:Int) (w:World):Calls Tryz.prog 59 #[.int .i64 n] w fun e w'=>e = .returned (.bool (Pm.ask (Mm.Nd n)))∧w'=w:=by
 by_cases h1:0≤n
 ·by_cases h2:n≤255
  ·go_enter Tryz.func59,Tryz.ntmps59
   go_wp2
   go_ret
   exact ⟨za3 (by rw [Pm.zbp (show Mm.Nd n from ⟨h1,h2⟩)]),rfl⟩
  ·go_enter Tryz.func59,Tryz.ntmps59
   go_wp2
   go_ret
   exact ⟨za3 (by rw [Pm.zba (fun h:Mm.Nd n=>by have:=h.2;omega)]),rfl⟩
 ·go_enter Tryz.func59,Tryz.ntmps59
  go_wp2
  go_ret
  exact ⟨za3 (by rw [Pm.zba (fun h:Mm.Nd n=>by have:=h.1;omega)]),rfl⟩
set_option maxHeartbeats 1000000 in
theorem zj7 (x : Mm.Ms) (l : Lo) (B : Nat) (w : World) (hp : MsAt w B x l) (hB : B ≤ w.heap.size) (ht : Tab w) :
  Calls Tryz.prog 60 #[mv x l] w fun e w'=>e = .returned (.bool x.zec)∧Below w.heap.size w w':=by
 have hx1:=Mx.new w x l 37
 have hb1:Hid (Below w.heap.size w (w.alloc (.cells (mvs x l).toArray 37))):=(Below.refl _ w).alloc (Nat.le_refl _) _
 have hz1:w.heap.size≤(w.alloc (.cells (mvs x l).toArray 37)).heap.size:=by rw [World.size_alloc];omega
 have HPL:=Lib.hid hx1.plan
 have k10:=hx1.at 10 rfl
 have HR:=Lib.hid (zl4 x.plan _ _ _ _ _ _ B _ (hp.pl.below hb1.out hB) (Nat.le_trans hB hz1) (ht.below hb1.out (Nat.le_refl _)))
 have HS:=Lib.hid (zpl x.plan Pm.zero _ _ _ _ _ _ B none 0 0 none 0 0 0 _ (hp.pl.below hb1.out hB) (PlAt.zero _ 0) (Nat.le_trans hB hz1) (Nat.zero_le _))
 have HZ:=Lib.hid hz1
 unfold mv
 generalize mvs x l=L at *
 clear hx1 hz1
 have HE:Hid (x.zec=if x.has then x.plan.right else Pm.same x.plan Pm.zero):=rfl
 generalize x.zec=pr at *
 generalize x.has=hh at *
 cases hh
 ·go_enter Tryz.func60,Tryz.ntmps60
  go_wp2_with (first|(refine wpList_load_mid rfl 34 _ rfl w.heap.size 11 rfl _ _ HPL.out Tryz.underlying34 rfl za2 ?_)|(go_at_call 90;refine HS.out.mono ?_;rintro e w2 ⟨rfl,hb2⟩))
  go_ret
  exact ⟨za3 HE.out.symm,hb1.out.trans (hb2.mono HZ.out)⟩
 ·go_enter Tryz.func60,Tryz.ntmps60
  go_wp2_with (first|(refine wpList_load_mid rfl 34 _ rfl w.heap.size 11 rfl _ _ HPL.out Tryz.underlying34 rfl za2 ?_)|(go_at_call 89;refine HR.out.mono ?_;rintro e w2 ⟨rfl,hb2⟩))
  go_ret
  exact ⟨za3 HE.out.symm,hb1.out.trans (hb2.mono HZ.out)⟩
set_option maxHeartbeats 1000000 in
theorem zlf (x : Mm.Ms) (l : Lo) (w : World) (hx : x.Ok) :
  Calls Tryz.prog 88 #[mv x l] w fun e w'=>e = .returned (.agg (i64s x.nums).toArray)∧Below w.heap.size w w':=by
 have HE:Hid (i64s x.nums=[.int .i64 x.f,.int .i64 x.t,.int .i64 x.e,.int .i64 x.b,.int .i64 x.a,.int .i64 x.n,.int .i64 x.ti,.int .i64 (wrap64 x.up),.int .i64 x.co,.int .i64 (Mm.one x.has)]):=by
  rw [sgw hx.up];exact Lib.hid rfl
 clear hx
 unfold mv mvs pvs
 simp only [List.cons_append,List.nil_append]
 generalize x.has=hh at *
 cases hh
 ·go_enter Tryz.func88,Tryz.ntmps88
  go_wp2
  refine bodyPost_ret (results_cell_row rfl _ _ (w.heap.size+1) _ _ (0,0) _ rfl (zij _ _ _ (by simp)) Tryz.underlying126 rfl zbi) rfl ?_
  rw [HE.out]
  exact ⟨rfl,((((Below.refl _ w).alloc (Nat.le_refl _) _).alloc (by simp) _).alloc (by simp;omega) _)⟩
 ·go_enter Tryz.func88,Tryz.ntmps88
  go_wp2
  refine bodyPost_ret (results_cell_row rfl _ _ (w.heap.size+1) _ _ (0,0) _ rfl (zij _ _ _ (by simp)) Tryz.underlying126 rfl zbi) rfl ?_
  rw [HE.out]
  exact ⟨rfl,((((Below.refl _ w).alloc (Nat.le_refl _) _).alloc (by simp) _).alloc (by simp;omega) _)⟩
end Go.Proofs.YtponpgcpmlcdpaaGreatDoor
namespace Go.Proofs.YtponpgcpmlcdpaaGreatDoor
open Go.RowKit Go.Shelf
set_option maxHeartbeats 4000000 in
theorem zg3 (x : Mm.Ms) (l : Lo) (B : Nat) (w : World) (hp : MsAt w B x l) (hB : B ≤ w.heap.size) (ht : Tab w) :
  Calls Tryz.prog 35 #[mv x l] w fun e w'=>e = .returned (.bool x.right)∧Below w.heap.size w w':=by
 have hx1:=Mx.new w x l 37
 have hb1:Hid (Below w.heap.size w (w.alloc (.cells (mvs x l).toArray 37))):=(Below.refl _ w).alloc (Nat.le_refl _) _
 have hz1:w.heap.size≤(w.alloc (.cells (mvs x l).toArray 37)).heap.size:=by rw [World.size_alloc];omega
 have k0:=hx1.at 0 rfl
 have k1:=hx1.at 1 rfl
 have k2:=hx1.at 2 rfl
 have k8:=hx1.at 8 rfl
 have k9:=hx1.at 9 rfl
 have HX:Hid ((w.alloc (.cells (mvs x l).toArray 37)).rangeAt w.heap.size 0 (mvs x l)):=hx1
 have HRP:=Lib.hid (zj7 x l B _ (hp.below hb1.out hB) (Nat.le_trans hB hz1) (ht.below hb1.out (Nat.le_refl _)))
 have hbb:w.heap.size < (w.alloc (.cells (mvs x l).toArray 37)).heap.size:=by rw [World.size_alloc];omega
 have HI:=Lib.hid (fun (W:World) (h:Below (w.alloc (.cells (mvs x l).toArray 37)).heap.size (w.alloc (.cells (mvs x l).toArray 37)) W)=>(hx1.below h hbb).id)
 have HS:=Lib.hid (fun (W:World) (h:Below (w.alloc (.cells (mvs x l).toArray 37)).heap.size (w.alloc (.cells (mvs x l).toArray 37)) W)=>(hx1.below h hbb).se)
 have HP:=Lib.hid (fun (W:World) (h:Below (w.alloc (.cells (mvs x l).toArray 37)).heap.size (w.alloc (.cells (mvs x l).toArray 37)) W)=>(hx1.below h hbb).pa)
 have hlen:=Lib.hid (zq3 x l)
 have hz:=Lib.hid hz1
 have hc3:Hid ((((l.n3:Int) == 0)=true∧(x.id.length=0∨x.id.length=3))∨(((l.n3:Int) == 0)=false∧((l.n3:Int) == 3)=true∧(x.id.length=0∨x.id.length=3))∨(((l.n3:Int) == 0)=false∧((l.n3:Int) == 3)=false∧x.right=false)):=by
  have h3:=hp.l3
  by_cases q0:l.n3=0
  ·exact .inl ⟨by rw [q0];rfl,.inl (by omega)⟩
  ·have z0:((l.n3:Int) == 0)=false:=by rw [beq_eq_false_iff_ne];omega
   by_cases q3:l.n3=3
   ·exact .inr (.inl ⟨z0,by rw [q3];rfl,.inr (by omega)⟩)
   ·exact .inr (.inr ⟨z0,by rw [beq_eq_false_iff_ne];omega,Mm.no_id (by omega) (by omega)⟩)
 have hu:=hp.ok.up
 have N1:=Lib.hid (Mm.no_k1 (x:=x))
 have N2:=Lib.hid (Mm.no_k2 (x:=x))
 have N3:=Lib.hid (Mm.no_f (x:=x))
 have N4:=Lib.hid (Mm.no_t (x:=x))
 have N5:=Lib.hid (Mm.no_up (x:=x) hu)
 have N6:=Lib.hid (Mm.no_c1 (x:=x))
 have N7:=Lib.hid (Mm.no_c2 (x:=x))
 have N8:=Lib.hid (Mm.no_pr (x:=x))
 have N9:=Lib.hid (Mm.no_se (x:=x) hp.l4)
 have NY:=Lib.hid (fun a1 a2 a3 a4 a5 a6 a7 a8 a9 a10=>Mm.right_pa (x:=x) hu hp.l4 hp.l5 a1 a2 a3 a4 a5 a6 a7 a8 a9 a10)
 clear hu hz1 hx1 hp hB ht hbb
 unfold mv at HRP ⊢
 generalize mvs x l=L at *
 go_enter Tryz.func35,Tryz.ntmps35
 repeat (first
  |go_skip
  | (with_reducible refine zax ?_
     fail_if_success (refine zf0 rfl ?_)
     refine zf1 2 false rfl rfl rfl (by kernel_rfl) (fun h => ?_) (fun h a' h1 h2 h3 h4 => ?_)
     rw [h])
  | (with_reducible refine zax ?_
     refine zdj 37 _ rfl w.heap.size 0 rfl _ _ HX.out Tryz.underlying37 rfl hlen.out (by kernel_rfl) ?_)
  |(go_at_call 59;refine (zgw _ _).mono ?_;rintro e w2 ⟨rfl,rfl⟩;dsimp only)
  |(go_at_call 60;refine HRP.out.mono ?_;rintro e w2 ⟨rfl,hb2⟩;dsimp only;have K23:=(HI.out _ hb2);have K24:=(HS.out _ hb2);have K25:=(HP.out _ hb2);rcases hc3.out with ⟨d0,d1⟩|⟨d0,d1,d2⟩|⟨d0,d1,d2⟩)
  |go_step)
 all_goals (repeat (first
  |go_skip
  | (with_reducible refine zax ?_
     fail_if_success (refine zf0 rfl ?_)
     refine zf1 2 false rfl rfl rfl (by kernel_rfl) (fun h => ?_) (fun h a' h1 h2 h3 h4 => ?_)
     rw [h])
  | (with_reducible refine zax ?_
     refine zdj 37 _ rfl w.heap.size 0 rfl _ _ HX.out Tryz.underlying37 rfl hlen.out (by kernel_rfl) ?_)
  |(go_at_call 59;refine (zgw _ _).mono ?_;rintro e w2 ⟨rfl,rfl⟩;dsimp only)
  |(go_at_call 60;refine HRP.out.mono ?_;rintro e w2 ⟨rfl,hb2⟩;dsimp only;have K23:=(HI.out _ hb2);have K24:=(HS.out _ hb2);have K25:=(HP.out _ hb2);rcases hc3.out with ⟨d0,d1⟩|⟨d0,d1,d2⟩|⟨d0,d1,d2⟩)
  |go_step))
 all_goals (repeat (first
  |go_skip
  | (with_reducible refine zax ?_
     fail_if_success (refine zf0 rfl ?_)
     refine zf1 2 false rfl rfl rfl (by kernel_rfl) (fun h => ?_) (fun h a' h1 h2 h3 h4 => ?_)
     rw [h])
  | (with_reducible refine zax ?_
     refine zdj 37 _ rfl w.heap.size 0 rfl _ _ HX.out Tryz.underlying37 rfl hlen.out (by kernel_rfl) ?_)
  |(go_at_call 59;refine (zgw _ _).mono ?_;rintro e w2 ⟨rfl,rfl⟩;dsimp only)
  |(go_at_call 60;refine HRP.out.mono ?_;rintro e w2 ⟨rfl,hb2⟩;dsimp only;have K23:=(HI.out _ hb2);have K24:=(HS.out _ hb2);have K25:=(HP.out _ hb2);rcases hc3.out with ⟨d0,d1⟩|⟨d0,d1,d2⟩|⟨d0,d1,d2⟩)
  |go_step))
 all_goals first
  | (refine bodyPost_ret (results_tmp rfl _ _ _) h1 ?_
     rw [h3]
     refine ⟨za3 ?_,?_⟩
     ·first|exact (N1.out h).symm|exact (N2.out h).symm|exact (N3.out h).symm|exact (N4.out h).symm|exact (N5.out h).symm|exact (N6.out h).symm|exact (N7.out h).symm|exact (N8.out h).symm|exact (N9.out h).symm
     ·first|exact hb1.out|exact hb1.out.trans (hb2.mono hz.out))
  | (go_ret
     refine ⟨za3 ?_,hb1.out.trans (hb2.mono hz.out)⟩
     first|exact d2.symm|exact (NY.out (by assumption) (by assumption) (by assumption) (by assumption) (by assumption) (by assumption) (by assumption) (by assumption) (by assumption) (by assumption)).symm)
end Go.Proofs.YtponpgcpmlcdpaaGreatDoor
namespace Go.Proofs.YtponpgcpmlcdpaaGreatDoor
open Go.RowKit Go.Shelf
def Rws (w:World) (B:Nat) (vs:List Value) (bs:List (List Int)):Prop:=vs.length=bs.length∧∀(j:Nat) v b,vs[j]? = some v→bs[j]? = some b→∃A c,v = .slice A b.length c∧b.length≤c∧c≤maxLen∧Rd w B A (u8s b)
theorem Rws.below {w w':World} {B:Nat} {vs:List Value} {bs:List (List Int)} (h:Rws w B vs bs) (hb:Below B w w'):Rws w' B vs bs :=
 ⟨h.1,fun j v b hv hb'=>by obtain ⟨A,c,e,h1,h2,h3⟩:=h.2 j v b hv hb';exact ⟨A,c,e,h1,h2,h3.below hb⟩⟩
set_option maxHeartbeats 1000000 in
theorem Grow_nil (n : Nat) (w : World) (hn : n ≤ 1000000) :
  Calls Tryz.prog 124 #[.slice none 0 0,.int .i64 (n:Int)] w fun e w'=>∃v,e = .returned v∧w'.ownsRow w.heap.size 5 1 v 0 []∧Below w.heap.size w w':=by
 obtain ⟨i0,hi,hz0,hz1,hz2⟩:=info_parts zci
 have hneg:¬ ((n:Int) < 0):=by omega
 have hwr:IntKind.i64.wrap (n:Int)=n:=by rw [IntKind.wrap_i64];omega
 cases n with
 | zero =>
   go_enter Tryz.func124,Tryz.ntmps124
   go_wp2
   go_ret
   exact ⟨_,rfl,zcc,Below.refl _ _⟩
 | succ m =>
   have hpos:(0:Int) < ((m+1:Nat):Int):=by omega
   have hrun:=Lib.run_append_nil_zeros (P:=Tryz.prog) w 35 3 35 5 i0 (.int .u8 0) .i64 .i64 Tryz.underlying35 Tryz.underlying3 hi hz0 (m+1) (by omega) (by rw [hz1];decide) (by omega) (by rw [hz2];omega)
   have hcap:=grownCap_le_maxLen w (m+1) 0 5 (by unfold maxLen;omega)
   have hge:=grownCap_ge w (m+1) 0 5
   obtain ⟨cp,hcp⟩ : ∃cp,grownCap w (m+1) 0 5=cp:=⟨_,rfl⟩
   rw [hcp] at hrun hcap hge
   have hsz:((Builtin.zeroCells (Value.int .u8 0).cells (m+1)++Builtin.zeroCells (Value.int .u8 0).cells (cp - (m+1))):Array Value).size=cp * 1:=by
    rw [Array.size_append,size_zeroCells,size_zeroCells]
    show (m+1) * 1+(cp - (m+1)) * 1=cp * 1
    omega
   generalize (Builtin.zeroCells (Value.int .u8 0).cells (m+1)++Builtin.zeroCells (Value.int .u8 0).cells (cp - (m+1)))=cur at *
   have hown:=World.ownsRow_made (base:=w.heap.size) (e:=5) (size:=1) w.drew cur cp (Nat.le_refl _) hcap hsz
   have hbel:Below w.heap.size w (w.drew.alloc (.cells cur 5)):=(Below.refl _ w).drew.alloc (Nat.le_refl _) _
   have HR:=Lib.hid hrun
   have HO:=Lib.hid hown
   generalize hk:((m+1:Nat):Int)=k at *
   have hc0:¬ (cp:Int) < 0:=by omega
   clear hrun hown hsz hge
   go_enter Tryz.func124,Tryz.ntmps124
   go_wp2_with (at_builtin;refine Lib.wpList_append_run _ rfl _ _ _ _ rfl _ _ rfl rfl _ _ HR.out ?_)
   go_ret
   exact ⟨_,rfl,HO.out,hbel⟩
def cats (bs:List (List Int)) (k:Nat):List Int:=(bs.take k).flatten
theorem zlz {bs:List (List Int)} {k:Nat} {b:List Int} (h:bs[k]? = some b):cats bs (k+1)=cats bs k++b:=by
 unfold cats
 rw [List.take_add_one,h]
 simp
theorem cats_all (bs:List (List Int)):cats bs bs.length=bs.flatten:=by unfold cats;rw [List.take_length]
theorem cats_le (bs:List (List Int)) (k:Nat):(cats bs k).length≤bs.flatten.length:=by
 have h:bs.flatten=cats bs k++(bs.drop k).flatten:=by unfold cats;rw [←List.flatten_append,List.take_append_drop]
 rw [h,List.length_append]
 omega
set_option maxHeartbeats 2000000 in
theorem zpn (A0 : Option Addr) (m c0 B : Nat) (vs : List Value) (bs : List (List Int)) (w : World) (hr : Rd w B A0 vs) (hv : Rws w B vs bs) (hm : bs.length = m) (hm64 : m ≤ 64) (hl : bs.flatten.length ≤ 1000000) (hB : B ≤ w.heap.size) :
  Calls Tryz.prog 114 #[.slice A0 m c0] w fun e w'=>∃v,e = .returned v∧w'.ownsRow w.heap.size 5 1 v bs.flatten.length (u8s bs.flatten)∧Below w.heap.size w w':=by
 have HR:=Lib.hid hr
 have HV:=Lib.hid hv
 have HM:=Lib.hid hm
 have HL:=Lib.hid (fun k=>Nat.le_trans (cats_le bs k) hl)
 have HA:Hid (cats bs m=bs.flatten):=by rw [←hm];exact cats_all bs
 have HG:=Lib.hid (Grow_nil (cats bs m).length w (HL.out m))
 have at_:∀k,k < m→∃v b,vs[k]? = some v∧bs[k]? = some b:=fun k hk=>⟨vs[k]'(by have:=hv.1;omega),bs[k]'(by omega),List.getElem?_eq_getElem _,List.getElem?_eq_getElem _⟩
 have HAT:=Lib.hid at_
 clear hr hv hm at_
 obtain ⟨i0,hi,hz0,hz1,hz2⟩:=info_parts zci
 go_enter Tryz.func114,Tryz.ntmps114
 go_wp2
 go_loopw [3,11] (fun sz ix wr=>∃k:Nat,ix = .int .i64 (k:Int)∧k≤m∧sz = .int .i64 ((cats bs k).length:Int)∧Hid (w=wr)) (fun _ ix _=>m - (intOf ix).toNat)
 case atStart=>exact ⟨0,rfl,Nat.zero_le _,rfl,Lib.hid rfl⟩
 case round =>
  obtain ⟨k,rfl,hk,rfl,hw⟩:=hrel
  obtain rfl:=hw.out
  clear hw
  by_cases hlt:k < m
  ·obtain ⟨v,b,hvk,hbk⟩:=HAT.out k hlt
   obtain ⟨ad,rfl,_,hc⟩:=HR.out k v hvk
   obtain ⟨Ak,ck,rfl,_,_,_⟩:=HV.out.2 k v b hvk hbk
   have hs:=congrArg List.length (zlz hbk)
   rw [List.length_append] at hs
   have hle:=HL.out (k+1)
   rw [hs] at hle
   have hwr:IntKind.i64.wrap (((cats bs k).length:Int)+(b.length:Int))=(((cats bs k).length+b.length:Nat):Int):=by rw [IntKind.wrap_i64];omega
   have hng:¬ ((((cats bs k).length+b.length:Nat):Int) < 0):=by omega
   have HS:=Lib.hid hs
   generalize hq:(cats bs k).length=q at *
   generalize b.length=nb at *
   clear hq hs hvk hbk
   go_wp2
   go_roundw
   case rel=>exact ⟨k+1,by go_num,by omega,by rw [HS.out];simp,by trivial⟩
   case measure=>simp [intOf];omega
  ·obtain rfl:k=m:=by omega
   clear hlt
   go_wp2_with (go_at_call 124;fail)
   refine HG.out.mono ?_
   rintro e w1 ⟨v1,rfl,hown1,hb1⟩
   have HO1:=Lib.hid hown1
   have HB1:=Lib.hid hb1
   have hz1':=hb1.size
   clear hown1 hb1 HG
   go_wp2
   go_loopw [6,27] (fun out ix wq=>∃j:Nat,ix = .int .i64 (j:Int)∧j≤k∧wq.ownsRow w.heap.size 5 1 out (cats bs j).length (u8s (cats bs j))∧Hid (Below w.heap.size w wq)) (fun _ ix _=>k - (intOf ix).toNat)
   case atStart=>exact ⟨0,rfl,Nat.zero_le _,HO1.out,HB1⟩
   case round =>
    obtain ⟨j,rfl,hj,hown,hBw⟩:=hrel
    by_cases hlt:j < k
    ·obtain ⟨v,b,hvk,hbk⟩:=HAT.out j hlt
     obtain ⟨ad,rfl,_,hc⟩:=(HR.out.below (hBw.out.mono hB)) j v hvk
     obtain ⟨Ak,ck,rfl,_,_,hrd⟩:=(HV.out.below (hBw.out.mono hB)).2 j v b hvk hbk
     have hs:=zlz hbk
     have hle:=HL.out (j+1)
     rw [hs,List.length_append] at hle
     have HS:=Lib.hid hs
     clear hs hvk hbk
     go_wp2_with (at_builtin;go_must (refine zdd rfl _ _ 35 rfl w.heap.size 5 i0 (.int .u8 0) 1 Tryz.underlying35 hi hz0 hz1 hz2 rfl _ _ _ rfl hown B Ak b.length ck (u8s b) rfl (by rw [List.length_map]) hrd (zbs _ _) (by unfold maxLen;omega) (by omega) hBw.out.size ?_);intro v8 w8 hown8 hgrow8 hone8)
     have hB8:=below_app hBw.out hown hgrow8 hBw.out.size
     have HO:Hid (w8.ownsRow w.heap.size 5 1 v8 (cats bs (j+1)).length (u8s (cats bs (j+1)))):=by
      show World.ownsRow _ _ _ _ _ _ _
      rw [HS.out,List.length_append]
      simpa [u8s] using hown8
     clear hown hown8 hgrow8 hone8
     go_roundw
     case rel=>exact ⟨j+1,by go_num,by omega,HO.out,Lib.hid hB8⟩
     case measure=>simp [intOf];omega
    ·obtain rfl:j=k:=by omega
     go_wp2
     go_ret
     rw [HA.out] at hown
     exact ⟨_,rfl,hown,hBw.out⟩
set_option maxHeartbeats 1000000 in
theorem zn2 (A : Option Addr) (n cap B : Nat) (xs : List Int) (w : World) (hx : Rd w B A (i64s xs)) (hn : xs.length = n) (hf : Wm.Fits xs) (hB : B ≤ w.heap.size) :
  Calls Tryz.prog 115 #[.slice A n cap] w fun e w'=>∃v,e = .returned v∧w'.ownsRow w.heap.size 5 1 v (Wm.zgf xs).1.length (u8s (Wm.zgf xs).1)∧Below w.heap.size w w':=by
 have HC:=Lib.hid (zi0 A n cap B xs w hx hn hf hB)
 clear hx
 go_enter Tryz.func115,Tryz.ntmps115
 go_wp2_with (go_at_call 125;refine HC.out.mono ?_;rintro e w1 ⟨v,rfl,hown,hb⟩)
 go_ret
 exact ⟨_,rfl,hown,hb⟩
set_option maxHeartbeats 1000000 in
theorem zj2 (A : Option Addr) (n cap B : Nat) (xs : List Int) (w : World) (hx : Rd w B A (u8s xs)) (hn : xs.length = n) (hB : B ≤ w.heap.size) :
  Calls Tryz.prog 117 #[.slice A n cap] w fun e w'=>∃v,e = .returned v∧w'.ownsRow w.heap.size 5 1 v (Wm.zgd xs).1.length (u8s (Wm.zgd xs).1)∧Below w.heap.size w w':=by
 have HC:=Lib.hid (znk A n cap B xs w hx hn hB)
 clear hx
 go_enter Tryz.func117,Tryz.ntmps117
 go_wp2_with (go_at_call 127;refine HC.out.mono ?_;rintro e w1 ⟨v,rfl,hown,hb⟩)
 go_ret
 exact ⟨_,rfl,hown,hb⟩
set_option maxHeartbeats 1000000 in
theorem zk7 (x : Mm.Ms) (l : Lo) (B : Nat) (w : World) (hp : MsAt w B x l) (hB : B ≤ w.heap.size) (ht : Tab w) :
  Calls Tryz.prog 116 #[mv x l] w fun e w'=>∃v,e = .returned v∧w'.ownsRow w.heap.size 5 1 v x.ptx.length (u8s x.ptx)∧Below w.heap.size w w':=by
 have hx1:=Mx.new w x l 37
 have hb1:Hid (Below w.heap.size w (w.alloc (.cells (mvs x l).toArray 37))):=(Below.refl _ w).alloc (Nat.le_refl _) _
 have hz1:w.heap.size≤(w.alloc (.cells (mvs x l).toArray 37)).heap.size:=by rw [World.size_alloc];omega
 have HPL:=Lib.hid hx1.plan
 have k10:=hx1.at 10 rfl
 have HP:=Lib.hid (Put_any x.plan _ _ _ _ _ _ B _ (hp.pl.below hb1.out hB) (Nat.le_trans hB hz1) (ht.below hb1.out (Nat.le_refl _)))
 have HZ:=Lib.hid hz1
 unfold mv
 generalize mvs x l=L at *
 clear hx1 hz1
 have HE:Hid (x.ptx=if x.has then Wm.zbe x.plan.put.1 else []):=rfl
 have HPL2:=Lib.hid (Pm.zh9 (x:=x.plan))
 generalize x.ptx=pr at *
 generalize x.has=hh at *
 cases hh
 ·go_enter Tryz.func116,Tryz.ntmps116
  go_wp2
  go_ret
  rw [HE.out]
  exact ⟨_,rfl,zcc,hb1.out⟩
 ·have HE':Hid (pr=Wm.zbe x.plan.put.1):=HE.out
  go_enter Tryz.func116,Tryz.ntmps116
  go_wp2_with (first|(refine wpList_load_mid rfl 34 _ rfl w.heap.size 11 rfl _ _ HPL.out Tryz.underlying34 rfl za2 ?_)|(go_at_call 126;fail))
  refine HP.out.mono ?_
  rintro e w2 ⟨v,rfl,hown,hb2⟩
  obtain ⟨A2,c2,rfl,_,_,hrd⟩:=za4 hown
  have HT:=Lib.hid (zj2 A2 _ c2 w2.heap.size x.plan.put.1 w2 hrd rfl (Nat.le_refl _))
  rw [Wm.zgc (by have:=HPL2.out;omega)] at HT
  have HB2:=Lib.hid (hb1.out.trans (hb2.mono HZ.out))
  clear hown hb2 hrd HP
  go_wp2_with (go_at_call 117;fail)
  refine HT.out.mono ?_
  rintro e w3 ⟨v3,rfl,hown3,hb3⟩
  go_wp2
  go_ret
  rw [HE'.out]
  exact ⟨_,rfl,zb3 hown3 HB2.out.size,HB2.out.trans (hb3.mono HB2.out.size)⟩
end Go.Proofs.YtponpgcpmlcdpaaGreatDoor
namespace Go.Proofs.YtponpgcpmlcdpaaGreatDoor
open Go.RowKit Go.Shelf
theorem flat5 (a b c d e:List Int):[a,b,c,d,e].flatten=a++(b++(c++(d++e))):=by simp
theorem zoa (w:World) (vs:List Value) (t:TypeId):Rd (w.alloc (.cells vs.toArray t)) (w.heap.size+1) (some ⟨w.heap.size,0,none⟩) vs:=Rd.new w (w.heap.size+1) vs t (0,0) (by omega)
set_option maxHeartbeats 4000000 in
theorem zr7 (x : Mm.Ms) (l : Lo) (B : Nat) (w : World) (hp : MsAt w B x l) (hB : B ≤ w.heap.size) (ht : Tab w) :
  Calls Tryz.prog 102 #[mv x l] w fun e w'=>∃v,e = .returned (.tuple #[.int .u8 x.zhi.1,v,.int .i64 x.zhi.2.2])∧w'.ownsRow w.heap.size 5 1 v x.zhi.2.1.length (u8s x.zhi.2.1)∧Below w.heap.size w w':=by
 have hx1:=Mx.new w x l 37
 have hb1:Hid (Below w.heap.size w (w.alloc (.cells (mvs x l).toArray 37))):=(Below.refl _ w).alloc (Nat.le_refl _) _
 have hz1:(w.alloc (.cells (mvs x l).toArray 37)).heap.size=w.heap.size+1:=World.size_alloc ..
 have HX:=Lib.hid (fun (W:World) (h:Below (w.heap.size+1) (w.alloc (.cells (mvs x l).toArray 37)) W)=>(hx1.below h (Nat.lt_succ_self _):Mx W w.heap.size x l))
 have HR:Hid (∀(W:World),Below (w.heap.size+1) (w.alloc (.cells (mvs x l).toArray 37)) W→W.rangeAt w.heap.size 0 (mvs x l)):=HX.out
 have hC1:=Lib.hid (Below.refl (w.heap.size+1) (w.alloc (.cells (mvs x l).toArray 37)))
 have HRI:=Lib.hid (zg3 x l B (w.alloc (.cells (mvs x l).toArray 37)) (hp.below hb1.out hB) (by rw [hz1];omega) (ht.below hb1.out (Nat.le_refl _)))
 have HNU:=Lib.hid (fun W=>zlf x l W hp.ok)
 have HPT:=Lib.hid (fun W h1 h2 h3=>zk7 x l B W h1 h2 h3)
 have hlen:=Lib.hid (zq3 x l)
 have HP:=Lib.hid hp
 have HT:=Lib.hid ht
 unfold mv at HRI HNU HPT ⊢
 generalize mvs x l=L at *
 clear hx1 hp ht
 go_enter Tryz.func102,Tryz.ntmps102
 go_wp2_with (first|(refine wpList_load_mid rfl 37 _ rfl w.heap.size 0 rfl L _ (HR.out _ hC1.out) Tryz.underlying37 rfl hlen.out ?_)|(go_at_call 35;fail))
 refine HRI.out.mono ?_
 rintro e w2 ⟨rfl,hb2'⟩
 have hC2:Hid (Below (w.heap.size+1) (w.alloc (.cells L.toArray 37)) w2):=hb2'.mono (by rw [hz1];exact Nat.le_refl _)
 clear hb2' HRI
 cases hr:x.right with
 | false =>
   have HE:=Lib.hid (Mm.zod hr)
   clear hr
   go_wp2
   go_ret3
   rw [HE.out]
   exact ⟨_,rfl,zcc,hb1.out.trans (hC2.out.mono (Nat.le_succ _))⟩
 | true =>
   have HE:=Lib.hid (Mm.zoc hr)
   obtain ⟨k1,k2,-,-,-,-,-,-,i3,s64,p1024⟩:=Mm.zbr.1 hr
   have hk8:IntKind.u8.wrap x.k=x.k:=by simp [IntKind.wrap,IntKind.signed,IntKind.bits];omega
   have hbl:=Lib.hid (Mm.ze5 hr)
   clear hr k1 k2
   go_wp2_with (first|(refine wpList_load_mid rfl 37 _ rfl w.heap.size 0 rfl L _ (HR.out _ hC2.out) Tryz.underlying37 rfl hlen.out ?_)|(go_at_call 88;fail))
   refine (HNU.out _).mono ?_
   rintro e w3 ⟨rfl,hb3'⟩
   have hz2:=hC2.out.size
   rw [hz1] at hz2
   have hC3:Hid (Below (w.heap.size+1) (w.alloc (.cells L.toArray 37)) w3):=hC2.out.trans (hb3'.mono hz2)
   have hz3:=Nat.le_trans hz2 hb3'.size
   clear hb3'
   go_wp2_with (first|(refine zbm rfl 126 _ _ rfl _ (i64s x.nums).toArray rfl rfl zbi rfl (zdk _) ?_))
   have hz4:(w3.alloc (.cells (i64s x.nums).toArray 126)).heap.size=w3.heap.size+1:=World.size_alloc ..
   have hC4:Hid (Below (w.heap.size+1) (w.alloc (.cells L.toArray 37)) (w3.alloc (.cells (i64s x.nums).toArray 126))):=hC3.out.alloc hz3 _
   have HG:=Lib.hid (fun (W:World) (h:Below (w3.heap.size+1) (w3.alloc (.cells (i64s x.nums).toArray 126)) W)=>hC4.out.trans (h.mono (Nat.le_succ_of_le hz3)))
   have HGW:=Lib.hid (fun (W:World) (h:Below (w3.heap.size+1) (w3.alloc (.cells (i64s x.nums).toArray 126)) W)=>hb1.out.trans ((HG.out W h).mono (Nat.le_succ _)))
   have hrn:Hid (Rd (w3.alloc (.cells (i64s x.nums).toArray 126)) (w3.heap.size+1) (some ⟨w3.heap.size,0,none⟩) (i64s x.nums)):=zoa w3 (i64s x.nums) 126
   have hnl:Hid (x.nums.length=10):=rfl
   have hnf:=Lib.hid (Mm.Ms.ze1 HP.out.ok)
   have HBD:Hid (x.body=[Wm.zat x.nums x.nums.length,x.ptx,Wm.zat x.id x.id.length,Wm.zbe x.se,Wm.zbe x.pa].flatten):=(flat5 _ _ _ _ _).symm
   generalize x.nums=ns at *
   refine zc6 (fun W=>Below (w3.heap.size+1) (w3.alloc (.cells (i64s ns).toArray 126)) W) (by kernel_rfl) ?_
   have hC:Below (w3.heap.size+1) (w3.alloc (.cells (i64s ns).toArray 126)) (w3.alloc (.cells (i64s ns).toArray 126)).drew:=(Below.refl _ _).drew
   refine zaf (i:=0) (v := ?v0_96) (a' := ?a0_96) rfl (by kernel_rfl) (by kernel_rfl) (by kernel_rfl) (fun _ _ _ h=>h) hC ?w0_96 ?y0_96 ?f0_96 ?r0_96
   case w0_96=>kernel_rfl
   case y0_96=>(intro w hC;go_simp;try with_reducible rfl)
   case f0_96=>(go_simp;try with_reducible rfl)
   refine zaf (i:=4) (v := ?v4_97) (a' := ?a4_97) rfl (by kernel_rfl) (by kernel_rfl) (by kernel_rfl) (fun _ _ _ h=>h) hC ?w4_97 ?y4_97 ?f4_97 ?r4_97
   case w4_97=>kernel_rfl
   case y4_97=>(intro w hC;go_simp;try with_reducible rfl)
   case f4_97=>(go_simp;try with_reducible rfl)
   refine zaf (i:=7) (v := ?v7_98) (a' := ?a7_98) rfl (by kernel_rfl) (by kernel_rfl) (by kernel_rfl) (fun _ _ _ h=>h) hC ?w7_98 ?y7_98 ?f7_98 ?r7_98
   case w7_98=>kernel_rfl
   case y7_98=>(intro w hC;go_simp;try with_reducible rfl)
   case f7_98=>(go_simp;try with_reducible rfl)
   refine zaf (i:=10) (v := ?v10_99) (a' := ?a10_99) rfl (by kernel_rfl) (by kernel_rfl) (by kernel_rfl) (fun _ _ _ h=>h) hC ?w10_99 ?y10_99 ?f10_99 ?r10_99
   case w10_99=>kernel_rfl
   case y10_99=>(intro w hC;go_simp;try with_reducible rfl)
   case f10_99=>(go_simp;try with_reducible rfl)
   refine zaf (i:=2) (v := ?v2_100) (a' := ?a2_100) rfl (by kernel_rfl) (by kernel_rfl) (by kernel_rfl) (fun _ _ _ h=>h) hC ?w2_100 ?y2_100 ?f2_100 ?r2_100
   case w2_100=>kernel_rfl
   case y2_100=>(intro W hW;exact by refine zbw 37 (.tmp 1) ?_ w.heap.size ?_ L _ (HR.out _ (HG.out _ hW)) Tryz.underlying37 rfl hlen.out<;>rfl)
   case f2_100=>(go_simp;try with_reducible rfl)
   refine zaf (i:=5) (v := ?v5_101) (a' := ?a5_101) rfl (by kernel_rfl) (by kernel_rfl) (by kernel_rfl) (fun _ _ _ h=>h) hC ?w5_101 ?y5_101 ?f5_101 ?r5_101
   case w5_101=>kernel_rfl
   case y5_101=>(intro w hC;have h4:=(HX.out w (HG.out w hC)).id;go_simp;try with_reducible rfl)
   case f5_101=>(go_simp;try with_reducible rfl)
   refine zaf (i:=8) (v := ?v8_102) (a' := ?a8_102) rfl (by kernel_rfl) (by kernel_rfl) (by kernel_rfl) (fun _ _ _ h=>h) hC ?w8_102 ?y8_102 ?f8_102 ?r8_102
   case w8_102=>kernel_rfl
   case y8_102=>(intro w hC;have h4:=(HX.out w (HG.out w hC)).se;go_simp;try with_reducible rfl)
   case f8_102=>(go_simp;try with_reducible rfl)
   refine zaf (i:=11) (v := ?v11_103) (a' := ?a11_103) rfl (by kernel_rfl) (by kernel_rfl) (by kernel_rfl) (fun _ _ _ h=>h) hC ?w11_103 ?y11_103 ?f11_103 ?r11_103
   case w11_103=>kernel_rfl
   case y11_103=>(intro w hC;have h4:=(HX.out w (HG.out w hC)).pa;go_simp;try with_reducible rfl)
   case f11_103=>(go_simp;try with_reducible rfl)
   have HC5:=Lib.hid (zn2 (some ⟨w3.heap.size,0,none⟩) 10 10 (w3.heap.size+1) ns _ (hrn.out.below (hC.mono (Nat.le_refl _))) hnl.out hnf.out (by rw [←hz4];exact hC.size))
   rw [Wm.zge (by have:=hnl.out;omega)] at HC5
   refine za5 (i:=1) rfl (by kernel_rfl) (by kernel_rfl) (fun K hK => ?_)
   go_simp
   refine HC5.out.mono ?_
   rintro e w5 ⟨v5,rfl,hown5,hb5⟩
   obtain ⟨A5,c5,rfl,hcp5,hcm5,hrd5'⟩:=za4 hown5
   have hC5:Below (w3.heap.size+1) (w3.alloc (.cells (i64s ns).toArray 126)) w5:=hC.trans (hb5.mono (by simp))
   have hrd5:=Lib.hid hrd5'
   refine hK _ _ ⟨hC5,?_⟩
   clear hK K HC5 hown5 hrd5' hb5
   have HC6:=Lib.hid (HPT.out _ (HP.out.below (HGW.out _ hC5) hB) (Nat.le_trans hB (HGW.out _ hC5).size) (HT.out.below (HGW.out _ hC5) (Nat.le_refl _)))
   refine za5 (i:=3) rfl (by kernel_rfl) (by kernel_rfl) (fun K hK => ?_)
   go_simp
   refine HC6.out.mono ?_
   rintro e w6 ⟨v6,rfl,hown6,hb6⟩
   obtain ⟨A6,c6,rfl,hcp6,hcm6,hrd6'⟩:=za4 hown6
   have hC6:Below (w3.heap.size+1) (w3.alloc (.cells (i64s ns).toArray 126)) w6:=hC5.trans (hb6.mono (by have:=hC5.size;rw [hz4] at this;exact this))
   have hrd6:=Lib.hid hrd6'
   have hrd5:=Lib.hid (hrd5.out.below hb6)
   refine hK _ _ ⟨hC6,?_⟩
   have hq5:=hb6.size
   clear hK K HC6 hown6 hrd6' hb6
   have HC7:=Lib.hid (zn2 l.A3 l.n3 l.c3 B x.id _ (HP.out.r3.below ((HGW.out _ hC6).mono hB)) HP.out.l3 HP.out.ok.id (Nat.le_trans hB (HGW.out _ hC6).size))
   rw [Wm.zge (by omega)] at HC7
   refine za5 (i:=6) rfl (by kernel_rfl) (by kernel_rfl) (fun K hK => ?_)
   go_simp
   refine HC7.out.mono ?_
   rintro e w7 ⟨v7,rfl,hown7,hb7⟩
   obtain ⟨A7,c7,rfl,hcp7,hcm7,hrd7'⟩:=za4 hown7
   have hC7:Below (w3.heap.size+1) (w3.alloc (.cells (i64s ns).toArray 126)) w7:=hC6.trans (hb7.mono (by have:=hC6.size;rw [hz4] at this;exact this))
   have hrd7:=Lib.hid hrd7'
   have hrd5:=Lib.hid (hrd5.out.below (hb7.mono hq5))
   have hrd6:=Lib.hid (hrd6.out.below hb7)
   refine hK _ _ ⟨hC7,?_⟩
   have hq5:=Nat.le_trans hq5 hb7.size
   have hq6:=hb7.size
   clear hK K HC7 hown7 hrd7' hb7
   have HC8:=Lib.hid (zj2 l.A4 l.n4 l.c4 B x.se _ (HP.out.r4.below ((HGW.out _ hC7).mono hB)) HP.out.l4 (Nat.le_trans hB (HGW.out _ hC7).size))
   rw [Wm.zgc (by omega)] at HC8
   refine za5 (i:=9) rfl (by kernel_rfl) (by kernel_rfl) (fun K hK => ?_)
   go_simp
   refine HC8.out.mono ?_
   rintro e w8 ⟨v8,rfl,hown8,hb8⟩
   obtain ⟨A8,c8,rfl,hcp8,hcm8,hrd8'⟩:=za4 hown8
   have hC8:Below (w3.heap.size+1) (w3.alloc (.cells (i64s ns).toArray 126)) w8:=hC7.trans (hb8.mono (by have:=hC7.size;rw [hz4] at this;exact this))
   have hrd8:=Lib.hid hrd8'
   have hrd5:=Lib.hid (hrd5.out.below (hb8.mono hq5))
   have hrd6:=Lib.hid (hrd6.out.below (hb8.mono hq6))
   have hrd7:=Lib.hid (hrd7.out.below hb8)
   refine hK _ _ ⟨hC8,?_⟩
   have hq5:=Nat.le_trans hq5 hb8.size
   have hq6:=Nat.le_trans hq6 hb8.size
   have hq7:=hb8.size
   clear hK K HC8 hown8 hrd8' hb8
   have HC9:=Lib.hid (zj2 l.A5 l.n5 l.c5 B x.pa _ (HP.out.r5.below ((HGW.out _ hC8).mono hB)) HP.out.l5 (Nat.le_trans hB (HGW.out _ hC8).size))
   rw [Wm.zgc (by omega)] at HC9
   refine za5 (i:=12) rfl (by kernel_rfl) (by kernel_rfl) (fun K hK => ?_)
   go_simp
   refine HC9.out.mono ?_
   rintro e w9 ⟨v9,rfl,hown9,hb9⟩
   obtain ⟨A9,c9,rfl,hcp9,hcm9,hrd9'⟩:=za4 hown9
   have hC9:Below (w3.heap.size+1) (w3.alloc (.cells (i64s ns).toArray 126)) w9:=hC8.trans (hb9.mono (by have:=hC8.size;rw [hz4] at this;exact this))
   have hrd9:=Lib.hid hrd9'
   have hrd5:=Lib.hid (hrd5.out.below (hb9.mono hq5))
   have hrd6:=Lib.hid (hrd6.out.below (hb9.mono hq6))
   have hrd7:=Lib.hid (hrd7.out.below (hb9.mono hq7))
   have hrd8:=Lib.hid (hrd8.out.below hb9)
   refine hK _ _ ⟨hC9,?_⟩
   have hq5:=Nat.le_trans hq5 hb9.size
   have hq6:=Nat.le_trans hq6 hb9.size
   have hq7:=Nat.le_trans hq7 hb9.size
   have hq8:=hb9.size
   clear hK K HC9 hown9 hrd9' hb9
   refine za5 (i:=13) rfl (by kernel_rfl) (by kernel_rfl) (fun K hK => ?_)
   go_simp
   have hz9:=hC9.size
   rw [hz4] at hz9
   have hb10:Below w9.heap.size w9 (w9.alloc (.cells ([Value.slice A5 (Wm.zat ns ns.length).length c5,.slice A6 x.ptx.length c6,.slice A7 (Wm.zat x.id x.id.length).length c7,.slice A8 (Wm.zbe x.se).length c8,.slice A9 (Wm.zbe x.pa).length c9]).toArray 35)):=(Below.refl _ _).alloc (Nat.le_refl _) _
   have hC10:Below (w3.heap.size+1) (w3.alloc (.cells (i64s ns).toArray 126)) (w9.alloc (.cells ([Value.slice A5 (Wm.zat ns ns.length).length c5,.slice A6 x.ptx.length c6,.slice A7 (Wm.zat x.id x.id.length).length c7,.slice A8 (Wm.zbe x.se).length c8,.slice A9 (Wm.zbe x.pa).length c9]).toArray 35)):=hC9.alloc hz9 _
   have hRV:Hid (Rd (w9.alloc (.cells ([Value.slice A5 (Wm.zat ns ns.length).length c5,.slice A6 x.ptx.length c6,.slice A7 (Wm.zat x.id x.id.length).length c7,.slice A8 (Wm.zbe x.se).length c8,.slice A9 (Wm.zbe x.pa).length c9]).toArray 35)) (w9.heap.size+1) (some ⟨w9.heap.size,0,none⟩) [Value.slice A5 (Wm.zat ns ns.length).length c5,.slice A6 x.ptx.length c6,.slice A7 (Wm.zat x.id x.id.length).length c7,.slice A8 (Wm.zbe x.se).length c8,.slice A9 (Wm.zbe x.pa).length c9]):=zoa w9 _ 35
   have hRW:Hid (Rws (w9.alloc (.cells ([Value.slice A5 (Wm.zat ns ns.length).length c5,.slice A6 x.ptx.length c6,.slice A7 (Wm.zat x.id x.id.length).length c7,.slice A8 (Wm.zbe x.se).length c8,.slice A9 (Wm.zbe x.pa).length c9]).toArray 35)) (w9.heap.size+1) [Value.slice A5 (Wm.zat ns ns.length).length c5,.slice A6 x.ptx.length c6,.slice A7 (Wm.zat x.id x.id.length).length c7,.slice A8 (Wm.zbe x.se).length c8,.slice A9 (Wm.zbe x.pa).length c9] [Wm.zat ns ns.length,x.ptx,Wm.zat x.id x.id.length,Wm.zbe x.se,Wm.zbe x.pa]):=by
    refine ⟨rfl,fun j v b hv hb => ?_⟩
    match j,hv,hb with
    |0,hv,hb=>cases hv;cases hb;exact ⟨A5,c5,rfl,hcp5,hcm5,(hrd5.out.below (hb10.mono hq5)).more (by omega)⟩
    |1,hv,hb=>cases hv;cases hb;exact ⟨A6,c6,rfl,hcp6,hcm6,(hrd6.out.below (hb10.mono hq6)).more (by omega)⟩
    |2,hv,hb=>cases hv;cases hb;exact ⟨A7,c7,rfl,hcp7,hcm7,(hrd7.out.below (hb10.mono hq7)).more (by omega)⟩
    |3,hv,hb=>cases hv;cases hb;exact ⟨A8,c8,rfl,hcp8,hcm8,(hrd8.out.below (hb10.mono hq8)).more (by omega)⟩
    |4,hv,hb=>cases hv;cases hb;exact ⟨A9,c9,rfl,hcp9,hcm9,(hrd9.out.below hb10).more (by omega)⟩
    |j+5,hv,_=>cases hv
   have hCC:=Lib.hid (zpn (some ⟨w9.heap.size,0,none⟩) 5 5 (w9.heap.size+1) _ _ _ hRV.out hRW.out rfl (by omega) (by rw [←HBD.out];have:=hbl.out;omega) (by rw [World.size_alloc];exact Nat.le_refl _))
   rw [←HBD.out] at hCC
   have hz10:w3.heap.size+1≤(w9.alloc (.cells ([Value.slice A5 (Wm.zat ns ns.length).length c5,.slice A6 x.ptx.length c6,.slice A7 (Wm.zat x.id x.id.length).length c7,.slice A8 (Wm.zbe x.se).length c8,.slice A9 (Wm.zbe x.pa).length c9]).toArray 35)).heap.size:=by rw [World.size_alloc];omega
   refine hK _ _ ⟨hC10,?_⟩
   clear hK K hRV hRW hb10
   refine za5 (i:=14) rfl (by kernel_rfl) (by kernel_rfl) (fun K hK => ?_)
   go_simp
   refine hCC.out.mono ?_
   rintro e w11 ⟨v11,rfl,hown11,hb11⟩
   have hC11:=hC10.trans (hb11.mono hz10)
   have hO11:=Lib.hid (zb3 hown11 (Nat.le_trans (by omega) hz10):w11.ownsRow w.heap.size 5 1 v11 x.body.length (u8s x.body))
   have hbw:=Lib.hid (HGW.out _ hC11)
   refine hK _ _ ⟨hC11,?_⟩
   clear hK K hCC hown11 hb11
   refine zaf (i:=15) (v := ?v15_104) (a' := ?a15_104) rfl (by kernel_rfl) (by kernel_rfl) (by kernel_rfl) (fun _ _ _ h=>h) hC11 ?w15_104 ?y15_104 ?f15_104 ?r15_104
   case w15_104=>kernel_rfl
   case y15_104=>(intro w hC;go_simp;try with_reducible rfl)
   case f15_104=>(go_simp;try with_reducible rfl)
   refine zbc (by kernel_rfl) ?_
   have k0:=(HX.out _ (HG.out _ hC11)).at 0 rfl
   go_wp2
   go_ret3
   rw [HE.out]
   exact ⟨_,rfl,hO11.out,hbw.out⟩
end Go.Proofs.YtponpgcpmlcdpaaGreatDoor
namespace Go.Proofs.YtponpgcpmlcdpaaGreatDoor
open Go.RowKit Go.Shelf
theorem wpList_build {P : Program} {w : World} {ops : Array Oper} {rest : List Oper} {o : Oper} {a : Act} {Q : Exit → Act → World → Prop} (hgd : o.guard = none) (t : TypeId) (parts : Array (Nat × Operand)) (ho : o.op = .build t parts)
  (vs:Array (Nat×Value)) (hv:(parts.map fun p=>(p.1,a.eval p.2))=vs) (cells:Array Value) (hb:P.built t vs.toList=some cells) (h:wpList P ops Q rest (a.put o.dst (.agg cells)) w):wpList P ops Q (o::rest) a w :=
 wpList_plain hgd fun K hK=>by
  unfold Oper.wp execOp
  simp only [ho]
  have hr:=run_build (P:=P) w t vs cells hb
  have hv':(parts.map fun (i,x)=>(i,a.eval x))=vs:=hv
  rw [hv',Sem.run_bind,hr]
  exact hK _ _ h
theorem zcr {P : Program} {a : Act} {o : Oper} {w : World} (t : TypeId) (parts : Array (Nat × Operand)) (ho : o.op = .build t parts) (vs : Array (Nat × Value)) (hv : (parts.map fun p => (p.1, a.eval p.2)) = vs) (cells : Array Value)
  (hb:P.built t vs.toList=some cells):(execOp a.eval o).run P w = .ok (.value (.agg cells)) w:=by
 unfold execOp
 simp only [ho]
 have hr:=run_build (P:=P) w t vs cells hb
 have hv':(parts.map fun (i,x)=>(i,a.eval x))=vs:=hv
 rw [hv',Sem.run_bind,hr]
 rfl
theorem zep {P : Program} {fn : Func} {p : Tmp} {ty : TypeId} (h : fn.results = #[.cell p ty]) (tmps : Array Value) (w : World) (b : Nat) (cs : List Value) (d : TypeDesc)
  (hp:tmps.getD p undef = .pointer (some ⟨b,0,none⟩)) (hr:w.rangeAt b 0 cs) (hu:P.underlying ty=some d) (hd:d.isRow=true) (hi:(P.info? ty).map (·.size)=some cs.length) :
  (results fn tmps).run P w = .ok (.agg cs.toArray) w:=by
 have hp':tmps[p]?.getD undef = .pointer (some ⟨b,0,none⟩):=by simpa using hp
 simp [results,h,hp',asAddr,run_loadVar_mid w b 0 ty cs d hr hu hd hi]
theorem zcy {P : Program} {fn : Func} {p u v : Tmp} {ty : TypeId} (h : fn.results = #[.cell p ty, .tmp u, .tmp v]) (tmps : Array Value) (w : World) (b : Nat) (cs : List Value) (d : TypeDesc)
  (hp:tmps.getD p undef = .pointer (some ⟨b,0,none⟩)) (hr:w.rangeAt b 0 cs) (hu:P.underlying ty=some d) (hd:d.isRow=true) (hi:(P.info? ty).map (·.size)=some cs.length) :
  (results fn tmps).run P w = .ok (.tuple #[.agg cs.toArray,tmps.getD u undef,tmps.getD v undef]) w:=by
 have hp':tmps[p]?.getD undef = .pointer (some ⟨b,0,none⟩):=by simpa using hp
 simp [results,h,hp',asAddr,run_loadVar_mid w b 0 ty cs d hr hu hd hi]
theorem zd6 (x:Mm.Ms) (l:Lo):(mvs x l).toArray.all (·.oneCell')=true:=by simp [mvs,pvs,Value.oneCell']
theorem uw {n:Int} (h:Pm.I n):n % 18446744073709551616=Pm.us n:=usw h
def ten (n0 n1 n2 n3 n4 n5 n6 n7 n8:Int) (h:Bool):Mm.Ms:=⟨0,n0,n1,n2,n3,n4,n5,n6,n7,n8,h,Pm.zero,[],[],[]⟩
set_option maxHeartbeats 2000000 in
theorem zqv (n0 n1 n2 n3 n4 n5 n6 n7 n8 n9 : Int) (w : World) :
  Calls Tryz.prog 80 #[.agg #[.int .i64 n0,.int .i64 n1,.int .i64 n2,.int .i64 n3,.int .i64 n4,.int .i64 n5,.int .i64 n6,.int .i64 n7,.int .i64 n8,.int .i64 n9]] w
   fun e w'=>e = .returned (mv (ten n0 n1 n2 n3 n4 n5 n6 (n7 % 18446744073709551616) n8 (n9 == 1)) Lo.zero)∧Below w.heap.size w w':=by
 have hz1:(w.alloc (.cells #[.int .i64 n0,.int .i64 n1,.int .i64 n2,.int .i64 n3,.int .i64 n4,.int .i64 n5,.int .i64 n6,.int .i64 n7,.int .i64 n8,.int .i64 n9] 126)).heap.size=w.heap.size+1:=World.size_alloc ..
 have hth:=Lib.hid (zby (w.alloc (.cells #[.int .i64 n0,.int .i64 n1,.int .i64 n2,.int .i64 n3,.int .i64 n4,.int .i64 n5,.int .i64 n6,.int .i64 n7,.int .i64 n8,.int .i64 n9] 126)) (mvs Mm.zero Lo.zero) 37)
 have hbw:Hid (Below w.heap.size w ((w.alloc (.cells #[.int .i64 n0,.int .i64 n1,.int .i64 n2,.int .i64 n3,.int .i64 n4,.int .i64 n5,.int .i64 n6,.int .i64 n7,.int .i64 n8,.int .i64 n9] 126)).alloc (.cells (mvs Mm.zero Lo.zero).toArray 37))):=((Below.refl _ w).alloc (Nat.le_refl _) _).alloc (by simp) _
 rw [hz1] at hth
 go_enter Tryz.func80,Tryz.ntmps80
 go_wp2_with (first
  | (refine wpList_build rfl 37 _ rfl #[(1, .int .i64 n0), (2, .int .i64 n1), (3, .int .i64 n2), (4, .int .i64 n3), (5, .int .i64 n4), (6, .int .i64 n5), (7, .int .i64 n6), (8, .int .u64 (n7 % 18446744073709551616)), (9, .int .i64 n8), (10, .bool (n9 == 1))] rfl
      (mvs (ten n0 n1 n2 n3 n4 n5 n6 (n7 % 18446744073709551616) n8 (n9 == 1)) Lo.zero).toArray (by kernel_rfl) ?_)
  |(refine wpList_store_mid rfl 37 _ _ rfl (w.heap.size+1) 0 (mvs (ten n0 n1 n2 n3 n4 n5 n6 (n7 % 18446744073709551616) n8 (n9 == 1)) Lo.zero).toArray rfl rfl hth.out zbn (zd6 _ _) ?_))
 refine bodyPost_ret (zep rfl _ _ (w.heap.size+1) (mvs (ten n0 n1 n2 n3 n4 n5 n6 (n7 % 18446744073709551616) n8 (n9 == 1)) Lo.zero) _ rfl (World.rangeAt_setCells_same _ _ _ _ hth.out) Tryz.underlying37 rfl zbn) rfl ?_
 exact ⟨rfl,below_grown hbw.out (za6 (w.heap.size+1) _ 0 _) (by omega) hbw.out.size⟩
theorem zqw (ns : List Int) (hns : ns.length = 10) (hf : Wm.Fits ns) (w : World) :
  Calls Tryz.prog 80 #[.agg (i64s ns).toArray] w fun e w'=>e = .returned (mv (Mm.msOf 0 ns) Lo.zero)∧Below w.heap.size w w':=by
 have h:=zqv (ns.getD 0 0) (ns.getD 1 0) (ns.getD 2 0) (ns.getD 3 0) (ns.getD 4 0) (ns.getD 5 0) (ns.getD 6 0) (ns.getD 7 0) (ns.getD 8 0) (ns.getD 9 0) w
 have e:(i64s ns).toArray = #[.int .i64 (ns.getD 0 0),.int .i64 (ns.getD 1 0),.int .i64 (ns.getD 2 0),.int .i64 (ns.getD 3 0),.int .i64 (ns.getD 4 0),.int .i64 (ns.getD 5 0),.int .i64 (ns.getD 6 0),.int .i64 (ns.getD 7 0),.int .i64 (ns.getD 8 0),.int .i64 (ns.getD 9 0)]:=by
  conv=>lhs;rw [Pm.len10 hns]
  rfl
 rw [e]
 refine h.mono ?_
 rintro e' w' ⟨rfl,hb⟩
 refine ⟨?_,hb⟩
 have e9:(ns.getD 9 0 == 1)=decide (ns.getD 9 0=1):=by rw [Bool.eq_iff_iff,beq_iff_eq,decide_eq_true_iff]
 rw [uw (Pm.zcs hf 7),e9]
 rfl
end Go.Proofs.YtponpgcpmlcdpaaGreatDoor
