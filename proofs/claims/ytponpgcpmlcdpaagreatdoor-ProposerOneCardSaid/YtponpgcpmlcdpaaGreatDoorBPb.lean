import Derived.Test.YtponpgcpmlcdpaaGreatDoorBPa
import Derived.Laws.StructEq
import Derived.Laws.Cover3
set_option maxRecDepth 100000
namespace Go.Proofs.YtponpgcpmlcdpaaGreatDoor
open Go.RowKit Go.Shelf
theorem zgn:∀(xs ys:List Int),xs.length=ys.length→((List.range xs.length).all fun i=>xs.getD i 0 == ys.getD i 0)=(xs == ys)
 | [],[],_=>rfl
 | x :: xs, y :: ys, h => by
   have ih:=zgn xs ys (by simpa using h)
   rw [List.length_cons,List.range_succ_eq_map,List.all_cons,List.all_map]
   simp only [List.getD_cons_zero,Function.comp_def,List.getD_cons_succ,ih]
   simp [List.cons_beq_cons]
 | [],_::_,h=>by simp at h
 |_::_,[],h=>by simp at h
theorem ze8 {P : Program} (w : World) (d : Nat) (t e : TypeId) (n : Nat) (ht : P.underlying t = some (.array n e)) (he : P.underlying e = some (.int .i64)) (hsz : ∀ w, (sizeOf e).run P w = .ok 1 w)
  (xs ys:List Int) (hx:xs.length=n) (hy:ys.length=n) :
  (Op.equalIn (d+2) t (.agg (i64s xs).toArray) (.agg (i64s ys).toArray)).run P w = .ok (xs == ys) w:=by
 rw [←zgn xs ys (hx.trans hy.symm),hx,List.range_eq_range',Op.equalIn]
 simp only [Sem.run_bind,run_underlying ht,Result.andThen_ok,hsz,Std.Legacy.Range.forIn_eq_forIn_range',Std.Legacy.Range.size,Nat.sub_zero,Nat.add_sub_cancel,Nat.div_one]
 have hl:∀i∈List.range' 0 n 1,i < n:=fun i hi=>by simpa using (List.mem_range'_1.1 hi).2
 generalize List.range' 0 n 1=l at hl ⊢
 induction l with
 |nil=>simp
 | cons i l ih =>
   have hi:i < n:=hl i (by simp)
   have px:(part e (i64s xs).toArray (i * 1)).run P w = .ok (.int .i64 (xs.getD i 0)) w:=by
    simp [part,isAgg,run_underlying he,List.getD,List.getElem?_eq_getElem (show i < xs.length by omega)]
   have py:(part e (i64s ys).toArray (i * 1)).run P w = .ok (.int .i64 (ys.getD i 0)) w:=by
    simp [part,isAgg,run_underlying he,List.getD,List.getElem?_eq_getElem (show i < ys.length by omega)]
   have pe:(Op.equalIn (d+1) e (.int .i64 (xs.getD i 0)) (.int .i64 (ys.getD i 0))).run P w = .ok (xs.getD i 0 == ys.getD i 0) w:=run_equalIn_int w d e .i64 .i64 _ _ he
   simp only [List.forIn_cons,Sem.run_bind,px,py,pe,Result.andThen_ok,List.all_cons]
   cases hb:(xs.getD i 0 == ys.getD i 0)
   ·simp
   ·simp only [Bool.not_true,Bool.false_eq_true,if_false,Sem.run_pure,Result.andThen_ok,Bool.true_and]
    exact ih fun j hj=>hl j (by simp [hj])
theorem zo6:Tryz.prog.eqGuardType Tryz.prog.depth 154=false:=by kernel_rfl
theorem zo3 (xs ys:List Int) (hx:xs.length=10) (hy:ys.length=10) (w:World):(Op.equalIn 10000 154 (.agg (i64s xs).toArray) (.agg (i64s ys).toArray)).run Tryz.prog w = .ok (xs == ys) w:=by
 obtain ⟨i0,hi,_,hz1,_⟩:=info_parts zki
 exact ze8 w 9998 154 2 10 Tryz.underlying154 Tryz.underlying2 (zbo hi hz1) xs ys hx hy
set_option maxHeartbeats 4000000 in
theorem zpl (x y : Pm.Pl) (A : Option Addr) (n c : Nat) (A' : Option Addr) (n' c' : Nat) (B : Nat) (D : Option Addr) (m d : Nat) (D' : Option Addr) (m' d' : Nat) (B2 : Nat) (w : World)
  (hp:PlAt w B x A n c A' n' c') (hq:PlAt w B2 y D m d D' m' d') (hB:B≤w.heap.size) (hB2:B2≤w.heap.size) :
  Calls Tryz.prog 90 #[pv x A n c A' n' c',pv y D m d D' m' d'] w fun e w'=>e = .returned (.bool (Pm.same x y))∧Below w.heap.size w w':=by
 have HP:=Lib.hid hp
 have HQ:=Lib.hid hq
 have b0:=Bx.new w x A n c A' n' c' 34
 have hb0:Below w.heap.size w (w.alloc (.cells (pvs x A n c A' n' c').toArray 34)):=(Below.refl _ w).alloc (Nat.le_refl _) _
 have hNX:=Lib.hid (fun W=>zdy x A n c A' n' c' W HP.out.ok)
 have hNY:=Lib.hid (fun W=>zdy y D m d D' m' d' W HQ.out.ok)
 clear hp hq
 rw [zmk] at hNX hNY
 rw [zmk,zmk]
 have hz1:(w.alloc (.cells (pvs x A n c A' n' c').toArray 34)).heap.size=w.heap.size+1:=World.size_alloc ..
 generalize hw1:w.alloc (.cells (pvs x A n c A' n' c').toArray 34)=w1 at *
 have b1:=Bx.new w1 y D m d D' m' d' 34
 have b0':Bx (w1.alloc (.cells (pvs y D m d D' m' d').toArray 34)) w.heap.size x A n c A' n' c':=b0.below (B:=w.heap.size+1) ((Below.refl _ w1).alloc (by omega) _) (Nat.lt_succ_self _)
 have hb1:Below w.heap.size w (w1.alloc (.cells (pvs y D m d D' m' d').toArray 34)):=hb0.alloc (by omega) _
 rw [hz1] at b1
 have hz2:(w1.alloc (.cells (pvs y D m d D' m' d').toArray 34)).heap.size=w.heap.size+2:=by rw [World.size_alloc,hz1]
 subst hw1
 have HX:=Lib.hid (fun (W:World) (h:Below (w.heap.size+2) ((w.alloc (.cells (pvs x A n c A' n' c').toArray 34)).alloc (.cells (pvs y D m d D' m' d').toArray 34)) W)=>(b0'.below h (by omega):Bx W w.heap.size x A n c A' n' c'))
 have HY:=Lib.hid (fun (W:World) (h:Below (w.heap.size+2) ((w.alloc (.cells (pvs x A n c A' n' c').toArray 34)).alloc (.cells (pvs y D m d D' m' d').toArray 34)) W)=>(b1.below h (by omega):Bx W (w.heap.size+1) y D m d D' m' d'))
 have HRX:Hid (∀(W:World),Below (w.heap.size+2) ((w.alloc (.cells (pvs x A n c A' n' c').toArray 34)).alloc (.cells (pvs y D m d D' m' d').toArray 34)) W→W.rangeAt w.heap.size 0 (pvs x A n c A' n' c')):=HX.out
 have HRY:Hid (∀(W:World),Below (w.heap.size+2) ((w.alloc (.cells (pvs x A n c A' n' c').toArray 34)).alloc (.cells (pvs y D m d D' m' d').toArray 34)) W→W.rangeAt (w.heap.size+1) 0 (pvs y D m d D' m' d')):=HY.out
 have hl1:Hid ((Tryz.prog.info? 34).map (·.size)=some (pvs x A n c A' n' c').length):=za2
 have hl2:Hid ((Tryz.prog.info? 34).map (·.size)=some (pvs y D m d D' m' d').length):=za2
 generalize pvs x A n c A' n' c'=L at *
 generalize pvs y D m d D' m' d'=M at *
 have HB1:=Lib.hid hb1
 have HZ2:=Lib.hid hz2
 clear b0 b0' b1 hb0 hb1 hz1 hz2
 have hEN:=Lib.hid (fun W=>zo3 x.nums y.nums rfl rfl W)
 have HS:Hid (Pm.same x y=Pm.ask (x.nums=y.nums∧x.pen=y.pen∧x.ch=y.ch)):=by
  by_cases e:x=y
  ·rw [show Pm.same x y=true from Pm.zbp e,Pm.zbp ⟨by rw [e],by rw [e],by rw [e]⟩];exact Lib.hid rfl
  ·rw [show Pm.same x y=false from Pm.zba e,Pm.zba (fun h=>e (Pm.nums_inj HP.out.ok HQ.out.ok h.1 h.2.1 h.2.2))];exact Lib.hid rfl
 have hgd:=zo6
 go_enter Tryz.func90,Tryz.ntmps90
 go_wp2_with fail
 refine zc6 (fun W=>Below (w.heap.size+2) ((w.alloc (.cells L.toArray 34)).alloc (.cells M.toArray 34)) W) (by kernel_rfl) ?_
 have hC:Below (w.heap.size+2) ((w.alloc (.cells L.toArray 34)).alloc (.cells M.toArray 34)) ((w.alloc (.cells L.toArray 34)).alloc (.cells M.toArray 34)).drew:=(Below.refl _ _).drew
 refine zaf (i:=0) (v := ?v0_41) (a' := ?a0_41) rfl (by kernel_rfl) (by kernel_rfl) (by kernel_rfl) (fun _ _ _ h=>h) hC ?w0_41 ?y0_41 ?f0_41 ?r0_41
 case w0_41=>kernel_rfl
 case y0_41=>(intro W hW;exact by refine zbw 34 (.tmp 2) ?_ w.heap.size ?_ L _ (HRX.out _ hW) Tryz.underlying34 rfl hl1.out<;>rfl)
 case f0_41=>(go_simp;try with_reducible rfl)
 refine zaf (i:=2) (v := ?v2_42) (a' := ?a2_42) rfl (by kernel_rfl) (by kernel_rfl) (by kernel_rfl) (fun _ _ _ h=>h) hC ?w2_42 ?y2_42 ?f2_42 ?r2_42
 case w2_42=>kernel_rfl
 case y2_42=>(intro W hW;exact by refine zbw 34 (.tmp 3) ?_ (w.heap.size+1) ?_ M _ (HRY.out _ hW) Tryz.underlying34 rfl hl2.out<;>rfl)
 case f2_42=>(go_simp;try with_reducible rfl)
 refine za5 (i:=1) rfl (by kernel_rfl) (by kernel_rfl) (fun K hK => ?_)
 go_simp
 refine (hNX.out _).mono ?_
 rintro e w2 ⟨rfl,hb2⟩
 have hC2:Below (w.heap.size+2) ((w.alloc (.cells L.toArray 34)).alloc (.cells M.toArray 34)) w2:=hC.trans (hb2.mono (by simp))
 refine hK _ _ ⟨hC2,?_⟩
 clear hK K hb2 hC
 refine za5 (i:=3) rfl (by kernel_rfl) (by kernel_rfl) (fun K hK => ?_)
 go_simp
 refine (hNY.out _).mono ?_
 rintro e w3 ⟨rfl,hb3⟩
 have hz2:=hC2.size
 rw [HZ2.out] at hz2
 have hC3:Below (w.heap.size+2) ((w.alloc (.cells L.toArray 34)).alloc (.cells M.toArray 34)) w3:=hC2.trans (hb3.mono hz2)
 refine hK _ _ ⟨hC3,?_⟩
 clear hK K hb3 hC2 hz2
 have hbw:=HB1.out.trans (hC3.mono (by omega))
 have HE1:=Lib.hid (zpa A D n m c d B B2 x.pen y.pen w3 (HP.out.r1.below (hbw.mono hB)) (HQ.out.r1.below (hbw.mono hB2)) HP.out.l1 HQ.out.l1 (Nat.le_trans HP.out.c1 HP.out.m1))
 have HE2:=Lib.hid (zo9 A' D' n' m' c' d' B B2 x.ch y.ch w3 (HP.out.r2.below (hbw.mono hB)) (HQ.out.r2.below (hbw.mono hB2)) HP.out.l2 HQ.out.l2 (Nat.le_trans HP.out.c2 HP.out.m2))
 generalize x.nums=xs at *
 generalize y.nums=ys at *
 by_cases e1:xs=ys
 ·have hbe:(xs == ys)=true:=by rw [beq_iff_eq];exact e1
  rw [hbe] at hEN
  have E1:=Lib.hid e1
  clear hbe e1
  refine zaf (i:=4) (v := ?v4_43) (a' := ?a4_43) rfl (by kernel_rfl) (by kernel_rfl) (by kernel_rfl) (fun _ _ _ h=>h) hC3 ?w4_43 ?y4_43 ?f4_43 ?r4_43
  case w4_43=>kernel_rfl
  case y4_43=>(intro w hC;have h4:=hEN.out w;go_simp;try with_reducible rfl)
  case f4_43=>(go_simp;try with_reducible rfl)
  refine zaf (i:=5) (v := ?v5_44) (a' := ?a5_44) rfl (by kernel_rfl) (by kernel_rfl) (by kernel_rfl) (fun _ _ _ h=>h) hC3 ?w5_44 ?y5_44 ?f5_44 ?r5_44
  case w5_44=>kernel_rfl
  case y5_44=>(intro w hC;go_simp;try with_reducible rfl)
  case f5_44=>(go_simp;try with_reducible rfl)
  refine zaf (i:=6) (v := ?v6_45) (a' := ?a6_45) rfl (by kernel_rfl) (by kernel_rfl) (by kernel_rfl) (fun _ _ _ h=>h) hC3 ?w6_45 ?y6_45 ?f6_45 ?r6_45
  case w6_45=>kernel_rfl
  case y6_45=>(intro w hC;go_simp;try with_reducible rfl)
  case f6_45=>(go_simp;try with_reducible rfl)
  refine zaf (i:=8) (v := ?v8_46) (a' := ?a8_46) rfl (by kernel_rfl) (by kernel_rfl) (by kernel_rfl) (fun _ _ _ h=>h) hC3 ?w8_46 ?y8_46 ?f8_46 ?r8_46
  case w8_46=>kernel_rfl
  case y8_46=>(intro w hC;go_simp;try with_reducible rfl)
  case f8_46=>(go_simp;try with_reducible rfl)
  refine zaf (i:=7) (v := ?v7_47) (a' := ?a7_47) rfl (by kernel_rfl) (by kernel_rfl) (by kernel_rfl) (fun _ _ _ h=>h) hC3 ?w7_47 ?y7_47 ?f7_47 ?r7_47
  case w7_47=>kernel_rfl
  case y7_47=>(intro w hC;have h4:=(HX.out w hC).pen;go_simp;try with_reducible rfl)
  case f7_47=>(go_simp;try with_reducible rfl)
  refine zaf (i:=9) (v := ?v9_48) (a' := ?a9_48) rfl (by kernel_rfl) (by kernel_rfl) (by kernel_rfl) (fun _ _ _ h=>h) hC3 ?w9_48 ?y9_48 ?f9_48 ?r9_48
  case w9_48=>kernel_rfl
  case y9_48=>(intro w hC;have h4:=(HY.out w hC).pen;go_simp;try with_reducible rfl)
  case f9_48=>(go_simp;try with_reducible rfl)
  refine za5 (i:=10) rfl (by kernel_rfl) (by kernel_rfl) (fun K hK => ?_)
  go_simp
  refine HE1.out.mono ?_
  rintro e w4 ⟨rfl,rfl⟩
  refine hK _ _ ⟨hC3,?_⟩
  clear hK K
  by_cases p1:x.pen=y.pen
  ·have HS2 : Hid (Pm.same x y = Pm.ask (x.ch = y.ch)) := by
    by_cases p2:x.ch=y.ch
    ·rw [Pm.zbp p2];exact HS.out.trans (Pm.zbp ⟨E1.out,p1,p2⟩)
    ·rw [Pm.zba p2];exact HS.out.trans (Pm.zba (fun h=>p2 h.2.2))
   rw [Pm.zbp p1]
   clear p1
   generalize Pm.ask (x.ch=y.ch)=bq at *
   refine zaf (i:=11) (v := ?v11_49) (a' := ?a11_49) rfl (by kernel_rfl) (by kernel_rfl) (by kernel_rfl) (fun _ _ _ h=>h) hC3 ?w11_49 ?y11_49 ?f11_49 ?r11_49
   case w11_49=>kernel_rfl
   case y11_49=>(intro w hC;go_simp;try with_reducible rfl)
   case f11_49=>(go_simp;try with_reducible rfl)
   refine zaf (i:=12) (v := ?v12_50) (a' := ?a12_50) rfl (by kernel_rfl) (by kernel_rfl) (by kernel_rfl) (fun _ _ _ h=>h) hC3 ?w12_50 ?y12_50 ?f12_50 ?r12_50
   case w12_50=>kernel_rfl
   case y12_50=>(intro w hC;go_simp;try with_reducible rfl)
   case f12_50=>(go_simp;try with_reducible rfl)
   refine zaf (i:=13) (v := ?v13_51) (a' := ?a13_51) rfl (by kernel_rfl) (by kernel_rfl) (by kernel_rfl) (fun _ _ _ h=>h) hC3 ?w13_51 ?y13_51 ?f13_51 ?r13_51
   case w13_51=>kernel_rfl
   case y13_51=>(intro w hC;go_simp;try with_reducible rfl)
   case f13_51=>(go_simp;try with_reducible rfl)
   refine zaf (i:=15) (v := ?v15_52) (a' := ?a15_52) rfl (by kernel_rfl) (by kernel_rfl) (by kernel_rfl) (fun _ _ _ h=>h) hC3 ?w15_52 ?y15_52 ?f15_52 ?r15_52
   case w15_52=>kernel_rfl
   case y15_52=>(intro w hC;go_simp;try with_reducible rfl)
   case f15_52=>(go_simp;try with_reducible rfl)
   refine zaf (i:=14) (v := ?v14_53) (a' := ?a14_53) rfl (by kernel_rfl) (by kernel_rfl) (by kernel_rfl) (fun _ _ _ h=>h) hC3 ?w14_53 ?y14_53 ?f14_53 ?r14_53
   case w14_53=>kernel_rfl
   case y14_53=>(intro w hC;have h4:=(HX.out w hC).ch;go_simp;try with_reducible rfl)
   case f14_53=>(go_simp;try with_reducible rfl)
   refine zaf (i:=16) (v := ?v16_54) (a' := ?a16_54) rfl (by kernel_rfl) (by kernel_rfl) (by kernel_rfl) (fun _ _ _ h=>h) hC3 ?w16_54 ?y16_54 ?f16_54 ?r16_54
   case w16_54=>kernel_rfl
   case y16_54=>(intro w hC;have h4:=(HY.out w hC).ch;go_simp;try with_reducible rfl)
   case f16_54=>(go_simp;try with_reducible rfl)
   refine za5 (i:=17) rfl (by kernel_rfl) (by kernel_rfl) (fun K hK => ?_)
   go_simp
   refine HE2.out.mono ?_
   rintro e w5 ⟨rfl,rfl⟩
   refine hK _ _ ⟨hC3,?_⟩
   clear hK K
   refine zaf (i:=18) (v := ?v18_55) (a' := ?a18_55) rfl (by kernel_rfl) (by kernel_rfl) (by kernel_rfl) (fun _ _ _ h=>h) hC3 ?w18_55 ?y18_55 ?f18_55 ?r18_55
   case w18_55=>kernel_rfl
   case y18_55=>(intro w hC;go_simp;try with_reducible rfl)
   case f18_55=>(go_simp;try with_reducible rfl)
   refine zaf (i:=19) (v := ?v19_56) (a' := ?a19_56) rfl (by kernel_rfl) (by kernel_rfl) (by kernel_rfl) (fun _ _ _ h=>h) hC3 ?w19_56 ?y19_56 ?f19_56 ?r19_56
   case w19_56=>kernel_rfl
   case y19_56=>(intro w hC;go_simp;try with_reducible rfl)
   case f19_56=>(go_simp;try with_reducible rfl)
   refine zbc (by kernel_rfl) ?_
   go_wp2
   go_ret
   exact ⟨za3 HS2.out.symm,hbw⟩
  ·have HF:Hid (Pm.same x y=false):=HS.out.trans (Pm.zba (fun h=>p1 h.2.1))
   rw [Pm.zba p1]
   clear p1
   refine zaf (i:=11) (v := ?v11_57) (a' := ?a11_57) rfl (by kernel_rfl) (by kernel_rfl) (by kernel_rfl) (fun _ _ _ h=>h) hC3 ?w11_57 ?y11_57 ?f11_57 ?r11_57
   case w11_57=>kernel_rfl
   case y11_57=>(intro w hC;go_simp;try with_reducible rfl)
   case f11_57=>(go_simp;try with_reducible rfl)
   refine zaf (i:=12) (v := ?v12_58) (a' := ?a12_58) rfl (by kernel_rfl) (by kernel_rfl) (by kernel_rfl) (fun _ _ _ h=>h) hC3 ?w12_58 ?y12_58 ?f12_58 ?r12_58
   case w12_58=>kernel_rfl
   case y12_58=>(intro w hC;go_simp;try with_reducible rfl)
   case f12_58=>(go_simp;try with_reducible rfl)
   refine zas (i:=13) (a' := ?a13_59) rfl (by kernel_rfl) (by kernel_rfl) (by kernel_rfl) (fun _ _ _ h=>h) hC3 (by kernel_rfl) ?f13_59 ?r13_59
   case f13_59=>(go_simp;try with_reducible rfl)
   refine zas (i:=14) (a' := ?a14_60) rfl (by kernel_rfl) (by kernel_rfl) (by kernel_rfl) (fun _ _ _ h=>h) hC3 (by kernel_rfl) ?f14_60 ?r14_60
   case f14_60=>(go_simp;try with_reducible rfl)
   refine zas (i:=15) (a' := ?a15_61) rfl (by kernel_rfl) (by kernel_rfl) (by kernel_rfl) (fun _ _ _ h=>h) hC3 (by kernel_rfl) ?f15_61 ?r15_61
   case f15_61=>(go_simp;try with_reducible rfl)
   refine zas (i:=16) (a' := ?a16_62) rfl (by kernel_rfl) (by kernel_rfl) (by kernel_rfl) (fun _ _ _ h=>h) hC3 (by kernel_rfl) ?f16_62 ?r16_62
   case f16_62=>(go_simp;try with_reducible rfl)
   refine zas (i:=17) (a' := ?a17_63) rfl (by kernel_rfl) (by kernel_rfl) (by kernel_rfl) (fun _ _ _ h=>h) hC3 (by kernel_rfl) ?f17_63 ?r17_63
   case f17_63=>(go_simp;try with_reducible rfl)
   refine zaf (i:=18) (v := ?v18_64) (a' := ?a18_64) rfl (by kernel_rfl) (by kernel_rfl) (by kernel_rfl) (fun _ _ _ h=>h) hC3 ?w18_64 ?y18_64 ?f18_64 ?r18_64
   case w18_64=>kernel_rfl
   case y18_64=>(intro w hC;go_simp;try with_reducible rfl)
   case f18_64=>(go_simp;try with_reducible rfl)
   refine zaf (i:=19) (v := ?v19_65) (a' := ?a19_65) rfl (by kernel_rfl) (by kernel_rfl) (by kernel_rfl) (fun _ _ _ h=>h) hC3 ?w19_65 ?y19_65 ?f19_65 ?r19_65
   case w19_65=>kernel_rfl
   case y19_65=>(intro w hC;go_simp;try with_reducible rfl)
   case f19_65=>(go_simp;try with_reducible rfl)
   refine zbc (by kernel_rfl) ?_
   go_wp2
   go_ret
   exact ⟨za3 HF.out.symm,hbw⟩
 ·have hbe:(xs == ys)=false:=by rw [beq_eq_false_iff_ne];exact e1
  rw [hbe] at hEN
  have HF:Hid (Pm.same x y=false):=HS.out.trans (Pm.zba (fun h=>e1 h.1))
  clear hbe e1
  refine zaf (i:=4) (v := ?v4_66) (a' := ?a4_66) rfl (by kernel_rfl) (by kernel_rfl) (by kernel_rfl) (fun _ _ _ h=>h) hC3 ?w4_66 ?y4_66 ?f4_66 ?r4_66
  case w4_66=>kernel_rfl
  case y4_66=>(intro w hC;have h4:=hEN.out w;go_simp;try with_reducible rfl)
  case f4_66=>(go_simp;try with_reducible rfl)
  refine zaf (i:=5) (v := ?v5_67) (a' := ?a5_67) rfl (by kernel_rfl) (by kernel_rfl) (by kernel_rfl) (fun _ _ _ h=>h) hC3 ?w5_67 ?y5_67 ?f5_67 ?r5_67
  case w5_67=>kernel_rfl
  case y5_67=>(intro w hC;go_simp;try with_reducible rfl)
  case f5_67=>(go_simp;try with_reducible rfl)
  refine zas (i:=6) (a' := ?a6_68) rfl (by kernel_rfl) (by kernel_rfl) (by kernel_rfl) (fun _ _ _ h=>h) hC3 (by kernel_rfl) ?f6_68 ?r6_68
  case f6_68=>(go_simp;try with_reducible rfl)
  refine zas (i:=7) (a' := ?a7_69) rfl (by kernel_rfl) (by kernel_rfl) (by kernel_rfl) (fun _ _ _ h=>h) hC3 (by kernel_rfl) ?f7_69 ?r7_69
  case f7_69=>(go_simp;try with_reducible rfl)
  refine zas (i:=8) (a' := ?a8_70) rfl (by kernel_rfl) (by kernel_rfl) (by kernel_rfl) (fun _ _ _ h=>h) hC3 (by kernel_rfl) ?f8_70 ?r8_70
  case f8_70=>(go_simp;try with_reducible rfl)
  refine zas (i:=9) (a' := ?a9_71) rfl (by kernel_rfl) (by kernel_rfl) (by kernel_rfl) (fun _ _ _ h=>h) hC3 (by kernel_rfl) ?f9_71 ?r9_71
  case f9_71=>(go_simp;try with_reducible rfl)
  refine zas (i:=10) (a' := ?a10_72) rfl (by kernel_rfl) (by kernel_rfl) (by kernel_rfl) (fun _ _ _ h=>h) hC3 (by kernel_rfl) ?f10_72 ?r10_72
  case f10_72=>(go_simp;try with_reducible rfl)
  refine zaf (i:=11) (v := ?v11_73) (a' := ?a11_73) rfl (by kernel_rfl) (by kernel_rfl) (by kernel_rfl) (fun _ _ _ h=>h) hC3 ?w11_73 ?y11_73 ?f11_73 ?r11_73
  case w11_73=>kernel_rfl
  case y11_73=>(intro w hC;go_simp;try with_reducible rfl)
  case f11_73=>(go_simp;try with_reducible rfl)
  refine zaf (i:=12) (v := ?v12_74) (a' := ?a12_74) rfl (by kernel_rfl) (by kernel_rfl) (by kernel_rfl) (fun _ _ _ h=>h) hC3 ?w12_74 ?y12_74 ?f12_74 ?r12_74
  case w12_74=>kernel_rfl
  case y12_74=>(intro w hC;go_simp;try with_reducible rfl)
  case f12_74=>(go_simp;try with_reducible rfl)
  refine zas (i:=13) (a' := ?a13_75) rfl (by kernel_rfl) (by kernel_rfl) (by kernel_rfl) (fun _ _ _ h=>h) hC3 (by kernel_rfl) ?f13_75 ?r13_75
  case f13_75=>(go_simp;try with_reducible rfl)
  refine zas (i:=14) (a' := ?a14_76) rfl (by kernel_rfl) (by kernel_rfl) (by kernel_rfl) (fun _ _ _ h=>h) hC3 (by kernel_rfl) ?f14_76 ?r14_76
  case f14_76=>(go_simp;try with_reducible rfl)
  refine zas (i:=15) (a' := ?a15_77) rfl (by kernel_rfl) (by kernel_rfl) (by kernel_rfl) (fun _ _ _ h=>h) hC3 (by kernel_rfl) ?f15_77 ?r15_77
  case f15_77=>(go_simp;try with_reducible rfl)
  refine zas (i:=16) (a' := ?a16_78) rfl (by kernel_rfl) (by kernel_rfl) (by kernel_rfl) (fun _ _ _ h=>h) hC3 (by kernel_rfl) ?f16_78 ?r16_78
  case f16_78=>(go_simp;try with_reducible rfl)
  refine zas (i:=17) (a' := ?a17_79) rfl (by kernel_rfl) (by kernel_rfl) (by kernel_rfl) (fun _ _ _ h=>h) hC3 (by kernel_rfl) ?f17_79 ?r17_79
  case f17_79=>(go_simp;try with_reducible rfl)
  refine zaf (i:=18) (v := ?v18_80) (a' := ?a18_80) rfl (by kernel_rfl) (by kernel_rfl) (by kernel_rfl) (fun _ _ _ h=>h) hC3 ?w18_80 ?y18_80 ?f18_80 ?r18_80
  case w18_80=>kernel_rfl
  case y18_80=>(intro w hC;go_simp;try with_reducible rfl)
  case f18_80=>(go_simp;try with_reducible rfl)
  refine zaf (i:=19) (v := ?v19_81) (a' := ?a19_81) rfl (by kernel_rfl) (by kernel_rfl) (by kernel_rfl) (fun _ _ _ h=>h) hC3 ?w19_81 ?y19_81 ?f19_81 ?r19_81
  case w19_81=>kernel_rfl
  case y19_81=>(intro w hC;go_simp;try with_reducible rfl)
  case f19_81=>(go_simp;try with_reducible rfl)
  refine zbc (by kernel_rfl) ?_
  go_wp2
  go_ret
  exact ⟨za3 HF.out.symm,hbw⟩
end Go.Proofs.YtponpgcpmlcdpaaGreatDoor
namespace Go.Proofs.YtponpgcpmlcdpaaGreatDoor
open Go.RowKit Go.Shelf
theorem za6 (b:Nat):∀(vs:List Value) (o:Nat) (W:World),W.grownBy (W.setCells b o vs) (some b)
 | [],_,W=>⟨rfl,rfl,rfl,Nat.le_refl _,fun _ _ _=>rfl⟩
 | v :: r, o, W => by
   rw [World.setCells]
   have h1:W.grownBy (W.setCell ⟨b,o,none⟩ v) (some b):=⟨rfl,rfl,rfl,(KeepsWalks.setCell W _ v).size,fun k _ hk=>Below.heap_setCell _ _ _ k (fun e=>hk (by rw [e]))⟩
   exact h1.trans (za6 b r (o+1) _)
theorem zbj (b o:Nat) (v:Value) (W:World):W.grownBy (W.setCell ⟨b,o,none⟩ v) (some b) :=
 ⟨rfl,rfl,rfl,(KeepsWalks.setCell W _ v).size,fun k _ hk=>Below.heap_setCell _ _ _ k (fun e=>hk (by rw [e]))⟩
theorem zdo {w w':World} {base:Nat} {e:TypeId} {v:Value} {n b:Nat} {xs:List Value} (h:w.ownsRow base e 1 v n xs) (hg:w.grownBy w' (some b)) (hb:b < base):w'.ownsRow base e 1 v n xs:=by
 refine h.kept hg ?_
 cases hv:v.ownBlock with
 |none=>exact .inl rfl
 |some k=>exact .inr (fun e=>by injection e with e;have:=(h.lt k hv).1;omega)
theorem below_grown {B b:Nat} {w0 w w':World} (h:Below B w0 w) (hg:w.grownBy w' (some b)) (hb:B≤b) (hB:B≤w.heap.size):Below B w0 w' :=
 h.grown hg hB (fun k hk=>by injection hk with hk;omega)
namespace Pm
def Reads (b:List Int):List (List Int)→Nat→Prop
 | [],to=>to=0
 | [l],to=>Wm.za1 b 0=(l,(to:Int),0)
 | [l,m],to=>∃n:Nat,Wm.za1 b 0=(l,(n:Int),0)∧Wm.za1 b (n:Int)=(m,(to:Int),0)
 | [l,m,o],to=>∃n k:Nat,Wm.za1 b 0=(l,(n:Int),0)∧Wm.za1 b (n:Int)=(m,(k:Int),0)∧Wm.za1 b (k:Int)=(o,(to:Int),0)
 |_,_=>False
theorem Reads.err {b:List Int} {ls:List (List Int)} {to:Nat} (h:Reads b ls to) (hl:ls.length < 3) (he:(Wm.za1 b (to:Int)).2.2≠0):get3 b=none:=by
 match ls,hl with
 | [],_=>cases h;exact zlq he
 | [l],_=>exact zlp h he
 | [l, m], _ =>
   obtain ⟨n,h0,h1⟩:=h
   exact zlo h0 h1 he
theorem Reads.more {b:List Int} {ls:List (List Int)} {to to':Nat} {l:List Int} (h:Reads b ls to) (hl:ls.length < 3) (he:Wm.za1 b (to:Int)=(l,(to':Int),0)):Reads b (ls++[l]) to':=by
 match ls,hl with
 | [],_=>cases h;exact he
 | [m],_=>exact ⟨to,h,he⟩
 | [m, o], _ =>
   obtain ⟨n,h0,h1⟩:=h
   exact ⟨n,to,h0,h1,he⟩
theorem Reads.done {b:List Int} {ls:List (List Int)} {to:Nat} (h:Reads b ls to) (hl:ls.length=3):∃l m o,ls=[l,m,o]∧(to=b.length→get3 b=some (l,m,o))∧(to≠b.length→get3 b=none):=by
 match ls,hl with
 | [l, m, o], _ =>
   obtain ⟨n,k,h0,h1,h2⟩:=h
   exact ⟨l,m,o,rfl,fun e=>zm6 h0 h1 h2 e,fun e=>zln h0 h1 h2 e⟩
end Pm
theorem zdi (w:World) (cs:Array Value) (t:TypeId) {b j:Nat} (hb:b=w.heap.size):(w.alloc (.cells cs t)).frozen? ⟨b,j,none⟩=false:=by
 subst hb
 unfold World.frozen?
 rw [heap_alloc_new]
 simp
structure Lst (w:World) (b:Nat) (ls:List (List Int)) (vs:List Value):Prop where
 len:vs.length=3
 lay:w.rangeAt b 0 vs
 free:∀j,j < 3→w.frozen? ⟨b,j,none⟩=false
 form:∀j,j < 3→∃A n c,vs[j]? = some (.slice A n c)
 own:∀(j:Nat) (l:List Int),ls[j]? = some l→∃v,vs[j]? = some v∧w.ownsRow (b+1) 2 1 v l.length (i64s l)
theorem zlr {B:Nat} {w w':World} (hb:Below B w w') {a:Addr} (ha:a.block < B):w'.frozen? a=w.frozen? a:=hb.frozen ha
theorem Lst.below {w w':World} {b:Nat} {ls:List (List Int)} {vs:List Value} (h:Lst w b ls vs) (hb:Below w.heap.size w w') (hlt:b < w.heap.size):Lst w' b ls vs :=
 ⟨h.len,fun j v hv=>by rw [hb.cell (by exact hlt)];exact h.lay j v hv,fun j hj=>by rw [zlr hb (by exact hlt)];exact h.free j hj,h.form,
  fun j l hl=>by
   obtain ⟨v,hv,ho⟩:=h.own j l hl
   exact ⟨v,hv,own_below ho hb (Nat.le_refl _)⟩⟩
theorem Lst.other {w w':World} {b b2:Nat} {ls:List (List Int)} {vs:List Value} (h:Lst w b ls vs) (hg:w.grownBy w' (some b2)) (hne:b2 < b) (hlt:b < w.heap.size):Lst w' b ls vs:=by
 have hblk:w'.heap[b]? = w.heap[b]?:=hg.block b hlt (fun e=>by injection e with e;omega)
 exact ⟨h.len,fun j v hv=>by rw [World.cell?_of_block hblk];exact h.lay j v hv,fun j hj=>by rw [World.frozen?_of_block hblk];exact h.free j hj,h.form,
  fun j l hl=>by
   obtain ⟨v,hv,ho⟩:=h.own j l hl
   exact ⟨v,hv,zdo ho hg (by omega)⟩⟩
theorem Lst.cell {w:World} {b:Nat} {ls:List (List Int)} {vs:List Value} (h:Lst w b ls vs) {j:Nat} (hj:j < 3):∃v,w.cell? ⟨b,j,none⟩=some v:=by
 obtain ⟨A,n,c,hv⟩:=h.form j hj
 have:=h.lay j _ hv
 rw [Nat.zero_add] at this
 exact ⟨_,this⟩
theorem Lst.set {w : World} {b : Nat} {ls : List (List Int)} {vs : List Value} (h : Lst w b ls vs) {A : Option Addr} {c : Nat} {l : List Int} (hk : ls.length < 3) (ho : w.ownsRow (b + 1) 2 1 (.slice A l.length c) l.length (i64s l)) :
  Lst (w.setCell ⟨b,ls.length,none⟩ (.slice A l.length c)) b (ls++[l]) (vs.set ls.length (.slice A l.length c)):=by
 have hg:=zbj b ls.length (.slice A l.length c) w
 refine ⟨by rw [List.length_set];exact h.len,fun j v hv => ?_,fun j hj=>by rw [World.frozen?_setCell];exact h.free j hj,fun j hj => ?_,fun j m hm => ?_⟩
 ·rw [List.getElem?_set] at hv
  obtain ⟨u,hu⟩:=h.cell hk
  by_cases e:ls.length=j
  ·subst e
   rw [if_pos rfl,if_pos (by rw [h.len];exact hk)] at hv
   rw [Nat.zero_add,World.cell?_setCell_same _ _ _ hu]
   exact hv
  ·rw [if_neg e] at hv
   rw [World.cell?_setCell_other _ _ _ _ (fun q=>e (by injection q with _ q;omega))]
   exact h.lay j v hv
 ·rw [List.getElem?_set]
  by_cases e:ls.length=j
  ·rw [if_pos e,if_pos (by rw [h.len];exact hk)];exact ⟨_,_,_,rfl⟩
  ·rw [if_neg e];exact h.form j hj
 ·rw [List.getElem?_set]
  by_cases e:ls.length=j
  ·subst e
   rw [List.getElem?_append_right (Nat.le_refl _),Nat.sub_self] at hm
   cases hm
   exact ⟨_,by rw [if_pos rfl,if_pos (by rw [h.len];exact hk)],zdo ho hg (Nat.lt_succ_self _)⟩
  ·have hj:j < (ls++[l]).length:=(List.getElem?_eq_some_iff.1 hm).1
   rw [List.length_append,List.length_singleton] at hj
   rw [List.getElem?_append_left (by omega)] at hm
   obtain ⟨v,hv,ho'⟩:=h.own j m hm
   exact ⟨v,by rw [if_neg e];exact hv,zdo ho' hg (Nat.lt_succ_self _)⟩
theorem zjo:(Tryz.prog.info? 163).map (·.size)=some 3:=by kernel_rfl
def Got3 (w0 w:World) (r:Option (List Int×List Int×List Int)) (v0 v1 v2:Value):Prop :=
 (∃A n c,v0 = .slice A n c)∧(∃A n c,v1 = .slice A n c)∧(∃A n c,v2 = .slice A n c) ∧
 ∀l m o,r=some (l,m,o)→w.ownsRow w0.heap.size 2 1 v0 l.length (i64s l)∧w.ownsRow w0.heap.size 2 1 v1 m.length (i64s m)∧w.ownsRow w0.heap.size 2 1 v2 o.length (i64s o)
theorem zlj {w:World} {b:Nat} {ls:List (List Int)} {vs:List Value} (h:Lst w b ls vs):∃v0 v1 v2,vs=[v0,v1,v2]∧(∃A n c,v0 = .slice A n c)∧(∃A n c,v1 = .slice A n c)∧(∃A n c,v2 = .slice A n c):=by
 have hl:=h.len
 match vs,hl with
 | [v0, v1, v2], _ =>
   obtain ⟨A0,n0,c0,h0⟩:=h.form 0 (by omega)
   obtain ⟨A1,n1,c1,h1⟩:=h.form 1 (by omega)
   obtain ⟨A2,n2,c2,h2⟩:=h.form 2 (by omega)
   cases h0;cases h1;cases h2
   exact ⟨_,_,_,rfl,⟨_,_,_,rfl⟩,⟨_,_,_,rfl⟩,⟨_,_,_,rfl⟩⟩
theorem zbd {P : Program} {fn : Func} {p u : Tmp} {ty : TypeId} (h : fn.results = #[.cell p ty, .tmp u]) (tmps : Array Value) (w : World) (b : Nat) (cs : List Value) (d : TypeDesc)
  (hp:tmps.getD p undef = .pointer (some ⟨b,0,none⟩)) (hr:w.rangeAt b 0 cs) (hu:P.underlying ty=some d) (hd:d.isRow=true) (hi:(P.info? ty).map (·.size)=some cs.length) :
  (results fn tmps).run P w = .ok (.tuple #[.agg cs.toArray,tmps.getD u undef]) w:=by
 have hp':(asAddr (tmps.getD p undef)).run P w = .ok ⟨b,0,none⟩ w:=by rw [hp];rfl
 rw [results_cell_tmp h,hp',Result.andThen_ok,run_loadVar_mid w b 0 ty cs d hr hu hd hi,Result.andThen_ok]
theorem zra {w w3 : World} {ls : List (List Int)} {vs : List Value} {r : Option (List Int × List Int × List Int)} (h : Lst w3 (w.heap.size + 1) ls vs) (hb : Below w.heap.size w w3) (hz : w.heap.size + 2 ≤ w3.heap.size)
  (hr:∀l m o,r=some (l,m,o)→ls=[l,m,o]):∃v0 v1 v2,vs=[v0,v1,v2]∧Got3 w (w3.setCells w.heap.size 0 vs) r v0 v1 v2∧Below w.heap.size w (w3.setCells w.heap.size 0 vs):=by
 obtain ⟨v0,v1,v2,hv,f0,f1,f2⟩:=zlj h
 have h':=h.other (za6 w.heap.size vs 0 w3) (Nat.lt_succ_self _) (by omega)
 refine ⟨v0,v1,v2,hv,⟨f0,f1,f2,fun l m o e => ?_⟩,below_grown hb (za6 w.heap.size vs 0 w3) (Nat.le_refl _) hb.size⟩
 have e2:=hr l m o e
 subst e2
 subst hv
 obtain ⟨u0,g0,o0⟩:=h'.own 0 l rfl
 obtain ⟨u1,g1,o1⟩:=h'.own 1 m rfl
 obtain ⟨u2,g2,o2⟩:=h'.own 2 o rfl
 cases g0;cases g1;cases g2
 exact ⟨zb3 o0 (by omega),zb3 o1 (by omega),zb3 o2 (by omega)⟩
theorem zja {w:World} {b:Nat} {ls:List (List Int)} {vs:List Value} (h:Lst w b ls vs):vs.toArray.all (·.oneCell')=true:=by
 obtain ⟨v0,v1,v2,rfl,⟨_,_,_,rfl⟩,⟨_,_,_,rfl⟩,⟨_,_,_,rfl⟩⟩:=zlj h
 simp [Value.oneCell']
set_option maxHeartbeats 4000000 in
theorem zi3 (A : Option Addr) (n cap B : Nat) (xs : List Int) (w : World) (hx : Rd w B A (u8s xs)) (hn : xs.length = n) (hnc : n ≤ cap) (hcap : cap ≤ maxLen) (hB : B ≤ w.heap.size) (hb : ∀ x ∈ xs, 0 ≤ x ∧ x ≤ 255) :
  Calls Tryz.prog 106 #[.slice A n cap] w fun e w'=>∃v0 v1 v2,e = .returned (.tuple #[.agg #[v0,v1,v2],.bool (Pm.get3 xs).isSome])∧Got3 w w' (Pm.get3 xs) v0 v1 v2∧Below w.heap.size w w':=by
 have HX:=Lib.hid hx
 have HN:=Lib.hid hn
 have HB:=Lib.hid hb
 have hcap':=hcap
 unfold maxLen at hcap'
 clear hx hb hn
 go_enter Tryz.func106,Tryz.ntmps106
 go_wp2
 have hb0:Hid (Below w.heap.size w ((w.alloc (.cells #[.slice none 0 0,.slice none 0 0,.slice none 0 0] 163)).alloc (.cells #[.slice none 0 0,.slice none 0 0,.slice none 0 0] 163))):=((Below.refl _ w).alloc (Nat.le_refl _) _).alloc (by simp) _
 have hz0:Hid (w.heap.size+2≤((w.alloc (.cells #[.slice none 0 0,.slice none 0 0,.slice none 0 0] 163)).alloc (.cells #[.slice none 0 0,.slice none 0 0,.slice none 0 0] 163)).heap.size):=by
  show _≤_
  rw [World.size_alloc,World.size_alloc];exact Nat.le_refl _
 have ht0:Hid (((w.alloc (.cells #[.slice none 0 0,.slice none 0 0,.slice none 0 0] 163)).alloc (.cells #[.slice none 0 0,.slice none 0 0,.slice none 0 0] 163)).there w.heap.size 0 3):=by
  refine World.there_alloc (fun j hj => ?_) _
  match j,hj with
  |0,_=>exact ⟨by rw [World.cell?_alloc_at (hn:=rfl)];rfl,zdi _ _ _ rfl⟩
  |1,_=>exact ⟨by rw [World.cell?_alloc_at (hn:=rfl)];rfl,zdi _ _ _ rfl⟩
  |2,_=>exact ⟨by rw [World.cell?_alloc_at (hn:=rfl)];rfl,zdi _ _ _ rfl⟩
 have hl0:Hid (Lst ((w.alloc (.cells #[.slice none 0 0,.slice none 0 0,.slice none 0 0] 163)).alloc (.cells #[.slice none 0 0,.slice none 0 0,.slice none 0 0] 163)) (w.heap.size+1) [] [.slice none 0 0,.slice none 0 0,.slice none 0 0]):=by
  refine ⟨rfl,fun j v hv => ?_,fun j hj=>zdi _ _ _ (World.size_alloc ..).symm,fun j hj => ?_,fun j l hl=>by cases hl⟩
  ·have h:=Rd.new (w.alloc (.cells #[.slice none 0 0,.slice none 0 0,.slice none 0 0] 163)) (w.heap.size+2) [.slice none 0 0,.slice none 0 0,.slice none 0 0] 163 (0,0) (by simp)
   obtain ⟨ad,e,_,hc⟩:=h j v hv
   cases e
   rw [Addr.add_mid,World.size_alloc] at hc
   exact hc
  ·match j,hj with
   |0,_=>exact ⟨_,_,_,rfl⟩
   |1,_=>exact ⟨_,_,_,rfl⟩
   |2,_=>exact ⟨_,_,_,rfl⟩
 go_loopw [5,10] (fun ax ix wr=>∃(ls:List (List Int)) (vs:List Value) (k to:Nat),ix = .int .i64 (k:Int)∧k≤3∧ax = .int .i64 (to:Int)∧to≤n∧Hid (ls.length=k)∧Hid (Pm.Reads xs ls to)∧Hid (Lst wr (w.heap.size+1) ls vs)∧Hid (wr.there w.heap.size 0 3)∧Hid (Below w.heap.size w wr)∧Hid (w.heap.size+2≤wr.heap.size))
  (fun _ ix _=>3 - (intOf ix).toNat)
 case atStart=>exact ⟨[],_,0,0,rfl,by omega,rfl,by omega,Lib.hid rfl,Lib.hid rfl,hl0,ht0,hb0,hz0⟩
 case round =>
  obtain ⟨ls,vs,k,to,rfl,hk,rfl,hto,hlk,hR,hL,hT,hBw,hz⟩:=hrel
  clear hb0 hz0 ht0 hl0
  by_cases hlt:k < 3
  ·have HI:=Lib.hid (zkx A n cap B xs (to:Int) wr (HX.out.below (hBw.out.mono hB)) HN.out hnc hcap (Nat.le_trans hB hBw.out.size) HB.out (by omega) (by omega))
   by_cases he:(Wm.za1 xs (to:Int)).2.2=0
   ·obtain ⟨l,to',e0⟩:=Pm.zd2 he HB.out
    obtain ⟨_,_,_,hle,_⟩:=Pm.zew e0 HB.out
    rw [HN.out] at hle
    rw [e0] at HI
    have HR2:=Lib.hid (hR.out.more (by rw [hlk.out];exact hlt) e0)
    clear he e0 hR
    go_wp2_with (go_at_call 84;fail)
    refine HI.out.mono ?_
    rintro e w3 ⟨v3,rfl,hown3,hb3⟩
    obtain ⟨A3,c3,rfl,hcp3,hcm3,-⟩:=za4 hown3
    have hL3:=hL.out.below hb3 (by have:=hz.out;omega)
    have hB3:=Lib.hid (hBw.out.trans (hb3.mono hBw.out.size))
    have hT3:Hid (w3.there w.heap.size 0 3):=fun j hj=>by
     obtain ⟨t1,t2⟩:=hT.out j hj
     have hlt:(⟨w.heap.size,0+j,none⟩ : Addr).block < wr.heap.size:=by have:=hz.out;show w.heap.size < _;omega
     exact ⟨by rw [hb3.cell hlt];exact t1,by rw [hb3.frozen hlt];exact t2⟩
    have hz3:=Lib.hid (Nat.le_trans hz.out hb3.size)
    obtain ⟨u,hcl⟩:=hL3.cell hlt
    have hfz:=hL3.free k hlt
    have hLs:=Lib.hid (hL3.set (A:=A3) (c:=c3) (l:=l) (by rw [hlk.out];exact hlt) (zb3 hown3 (by have:=hz.out;omega)))
    rw [hlk.out] at hLs
    have hg:=zbj (w.heap.size+1) k (.slice A3 l.length c3) w3
    have hBs:=Lib.hid (below_grown hB3.out hg (by omega) hB3.out.size)
    have hTs:Hid ((w3.setCell ⟨w.heap.size+1,k,none⟩ (.slice A3 l.length c3)).there w.heap.size 0 3):=World.there_setCells hT3.out (w.heap.size+1) k [.slice A3 l.length c3]
    have hzs:=Lib.hid (Nat.le_trans hz3.out hg.size)
    have hlk2:Hid ((ls++[l]).length=k+1):=by show _=_;rw [List.length_append,hlk.out];rfl
    clear hL3 hg hown3 hb3 HI hL hT hBw hz hcp3
    go_wp2
    go_roundw
    case rel=>exact ⟨ls++[l],_,k+1,to',by go_num,by omega,rfl,hle,hlk2,HR2,hLs,hTs,hBs,hzs⟩
    case measure=>simp [intOf];omega
   ·have hG:=Lib.hid (hR.out.err (by rw [hlk.out];exact hlt) he)
    generalize Wm.za1 xs (to:Int)=q at *
    obtain ⟨q1,q2,q3⟩:=q
    dsimp only at *
    have hq:(q3 != 0)=true:=by rw [bne_iff_ne];exact he
    clear he
    go_wp2_with (go_at_call 84;fail)
    refine HI.out.mono ?_
    rintro e w3 ⟨v3,rfl,-,hb3⟩
    have hL3:=Lib.hid (hL.out.below hb3 (by have:=hz.out;omega))
    have hB3:=Lib.hid (hBw.out.trans (hb3.mono hBw.out.size))
    have hT3:Hid (w3.there w.heap.size 0 3):=fun j hj=>by
     obtain ⟨t1,t2⟩:=hT.out j hj
     have hlt:(⟨w.heap.size,0+j,none⟩ : Addr).block < wr.heap.size:=by have:=hz.out;show w.heap.size < _;omega
     exact ⟨by rw [hb3.cell hlt];exact t1,by rw [hb3.frozen hlt];exact t2⟩
    have hz3:=Lib.hid (Nat.le_trans hz.out hb3.size)
    obtain ⟨z0,z1,z2,ev,hgot,hbe⟩:=zra (r:=Pm.get3 xs) hL3.out hB3.out hz3.out (fun l m o e=>by rw [hG.out] at e;cases e)
    have hvl:Hid ((Tryz.prog.info? 163).map (·.size)=some vs.length):=by rw [hL3.out.len];exact zjo
    have hone:=Lib.hid (zja hL3.out)
    have hth:Hid (w3.there w.heap.size 0 vs.toArray.size):=by
     have h1:vs.toArray.size=3:=hL3.out.len
     rw [h1];exact hT3
    have hrng:=Lib.hid (World.rangeAt_setCells_same w3 w.heap.size 0 vs (by rw [hL3.out.len];exact hT3.out))
    have HG:=Lib.hid hgot
    have HBE:=Lib.hid hbe
    have HEV:=Lib.hid ev
    clear hgot hbe ev hb3 HI hL hT hBw hz
    go_wp2_with (first|(refine wpList_load_mid rfl 163 _ rfl (w.heap.size+1) 0 rfl vs _ hL3.out.lay Tryz.underlying163 rfl hvl.out ?_)|(refine wpList_store_mid rfl 163 _ _ rfl w.heap.size 0 vs.toArray rfl rfl hth.out hvl.out hone.out ?_))
    refine bodyPost_ret (zbd rfl _ _ w.heap.size vs _ rfl hrng.out Tryz.underlying163 rfl hvl.out) rfl ?_
    exact ⟨z0,z1,z2,by rw [hG.out,HEV.out];rfl,HG.out,HBE.out⟩
  ·obtain rfl:k=3:=by omega
   obtain ⟨l,m,o,rfl,h1,h2⟩:=hR.out.done hlk.out
   have hr:∀l' m' o',Pm.get3 xs=some (l',m',o')→[l,m,o]=[l',m',o']:=fun l' m' o' e=>by
    by_cases hto2:to=xs.length
    ·rw [h1 hto2] at e;cases e;rfl
    ·rw [h2 hto2] at e;cases e
   obtain ⟨z0,z1,z2,ev,hgot,hbe⟩:=zra (r:=Pm.get3 xs) hL.out hBw.out hz.out hr
   have hvl:Hid ((Tryz.prog.info? 163).map (·.size)=some vs.length):=by rw [hL.out.len];exact zjo
   have hone:=Lib.hid (zja hL.out)
   have hth:Hid (wr.there w.heap.size 0 vs.toArray.size):=by
    have h1:vs.toArray.size=3:=hL.out.len
    rw [h1];exact hT
   have hrng:=Lib.hid (World.rangeAt_setCells_same wr w.heap.size 0 vs (by rw [hL.out.len];exact hT.out))
   have HG:=Lib.hid hgot
   have HBE:=Lib.hid hbe
   have HEV:=Lib.hid ev
   have hOK:Hid ((Pm.get3 xs).isSome=((to:Int) == (n:Int))):=by
    by_cases hto2:to=xs.length
    ·rw [h1 hto2,show ((to:Int) == (n:Int))=true from by rw [beq_iff_eq,hto2,HN.out]];exact Lib.hid rfl
    ·rw [h2 hto2,show ((to:Int) == (n:Int))=false from by rw [beq_eq_false_iff_ne];intro e;apply hto2;rw [HN.out];omega];exact Lib.hid rfl
   clear hgot hbe ev h1 h2 hr hR hlk
   go_wp2_with (first|(refine wpList_load_mid rfl 163 _ rfl (w.heap.size+1) 0 rfl vs _ hL.out.lay Tryz.underlying163 rfl hvl.out ?_)|(refine wpList_store_mid rfl 163 _ _ rfl w.heap.size 0 vs.toArray rfl rfl hth.out hvl.out hone.out ?_))
   refine bodyPost_ret (zbd rfl _ _ w.heap.size vs _ rfl hrng.out Tryz.underlying163 rfl hvl.out) rfl ?_
   exact ⟨z0,z1,z2,by rw [hOK.out,HEV.out];rfl,HG.out,HBE.out⟩
end Go.Proofs.YtponpgcpmlcdpaaGreatDoor
namespace Go.Proofs.YtponpgcpmlcdpaaGreatDoor
open Go.RowKit Go.Shelf
theorem usw {n:Int} (h:Pm.I n):n % 18446744073709551616=Pm.us n:=by
 unfold Pm.I at h
 unfold Pm.us
 split<;>omega
set_option maxHeartbeats 4000000 in
theorem zo0 (a0 a1 a2 a3 a4 a5 a6 a7 a8 a9 : Int) (A : Option Addr) (n c : Nat) (A' : Option Addr) (n' c' : Nat) (w : World) :
  Calls Tryz.prog 108 #[.agg #[.int .i64 a0,.int .i64 a1,.int .i64 a2,.int .i64 a3,.int .i64 a4,.int .i64 a5,.int .i64 a6,.int .i64 a7,.int .i64 a8,.int .i64 a9],.slice A n c,.slice A' n' c'] w fun e w' =>
   e = .returned (.agg #[.int .i64 a0,.int .i64 a1,.int .i64 a2,.int .i64 a3,.int .i64 a4,.int .i64 a5,.int .i64 a6,.int .i64 a7,.int .u64 (a8 % 18446744073709551616),.int .u64 (a9 % 18446744073709551616),.slice A n c,.slice A' n' c'])∧Below w.heap.size w w':=by
 go_enter Tryz.func108,Tryz.ntmps108
 go_wp2
 refine bodyPost_ret (results_cell_row rfl _ _ (w.heap.size+1) _ _ (0,0) _ rfl (zjl _ _ (by simp)) Tryz.underlying34 rfl za2) rfl ?_
 exact ⟨rfl,(((Below.refl _ w).alloc (Nat.le_refl _) _).alloc (by simp) _)⟩
theorem zo1 (ns pen ch : List Int) (hns : ns.length = 10) (hf : Wm.Fits ns) (A : Option Addr) (n c : Nat) (A' : Option Addr) (n' c' : Nat) (w : World) :
  Calls Tryz.prog 108 #[.agg (i64s ns).toArray,.slice A n c,.slice A' n' c'] w fun e w'=>e = .returned (pv (Pm.plOf ns pen ch) A n c A' n' c')∧Below w.heap.size w w':=by
 have h:=zo0 (ns.getD 0 0) (ns.getD 1 0) (ns.getD 2 0) (ns.getD 3 0) (ns.getD 4 0) (ns.getD 5 0) (ns.getD 6 0) (ns.getD 7 0) (ns.getD 8 0) (ns.getD 9 0) A n c A' n' c' w
 have e:(i64s ns).toArray = #[.int .i64 (ns.getD 0 0),.int .i64 (ns.getD 1 0),.int .i64 (ns.getD 2 0),.int .i64 (ns.getD 3 0),.int .i64 (ns.getD 4 0),.int .i64 (ns.getD 5 0),.int .i64 (ns.getD 6 0),.int .i64 (ns.getD 7 0),.int .i64 (ns.getD 8 0),.int .i64 (ns.getD 9 0)]:=by
  conv=>lhs;rw [Pm.len10 hns]
  rfl
 rw [e]
 refine h.mono ?_
 rintro e' w' ⟨rfl,hb⟩
 refine ⟨?_,hb⟩
 rw [usw (Pm.zcs hf 8),usw (Pm.zcs hf 9)]
 rfl
namespace Pm
theorem zrc {b l m o:List Int} (hb:∀c∈b,0≤c∧c≤255) (h:get3 b=some (l,m,o)):(Wm.Fits l∧Wm.Fits m∧Wm.Fits o)∧l.length≤64∧m.length≤64∧o.length≤64:=by
 rcases zo7 hb with h3|⟨l',n,e0,n0,f0,s0,h3⟩
 ·rw [h3.2] at h;cases h
 rcases h3 with h3|⟨m',i,e1,n1,f1,s1,h3⟩
 ·rw [h3.2] at h;cases h
 rcases h3 with h3|⟨o',j,e2,n2,f2,s2,h3⟩
 ·rw [h3.2] at h;cases h
 rcases h3 with h3|⟨hj,h4,hU⟩
 ·rw [h3.2] at h;cases h
 rw [h4] at h
 injection h with h
 injection h with h5 h
 injection h with h6 h7
 subst h5 h6 h7
 exact ⟨⟨f0,f1,f2⟩,by omega,by omega,by omega⟩
end Pm
theorem za9 {w w':World} {b o n B:Nat} (h:w.there b o n) (hb:Below B w w') (hlt:b < B):w'.there b o n:=fun j hj=>by
 obtain ⟨t1,t2⟩:=h j hj
 have hl:(⟨b,o+j,none⟩ : Addr).block < B:=hlt
 exact ⟨by rw [hb.cell hl];exact t1,by rw [hb.frozen hl];exact t2⟩
theorem zby (w:World) (cs:List Value) (t:TypeId):(w.alloc (.cells cs.toArray t)).there w.heap.size 0 cs.length:=fun j hj=>by
 obtain ⟨ad,e,_,hc⟩:=(Rd.new w (w.heap.size+1) cs t (0,0) (by omega)) j _ (List.getElem?_eq_getElem hj)
 cases e
 rw [Addr.add_mid] at hc
 exact ⟨by rw [hc];rfl,zdi _ _ _ rfl⟩
theorem zfe {w:World} {base:Nat} {e:TypeId} {g n cap:Nat} {xs:List Value} (h:w.ownsRow base e 1 (.slice (some ⟨g,0,none⟩) n cap) n xs):w.rangeAt g 0 xs:=fun j v hv=>by
 have:=h.cells (g:=g) rfl j v hv
 rw [Addr.add_mid] at this
 exact this
theorem zdg (x:Pm.Pl) (A:Option Addr) (n c:Nat) (A':Option Addr) (n' c':Nat):(pvs x A n c A' n' c').toArray.all (·.oneCell')=true:=by simp [pvs,Value.oneCell']
theorem zie (w:World) (B:Nat):PlAt w B Pm.zero none 0 0 none 0 0:=⟨Pm.zfh,Rd.nil _ _ _,rfl,Nat.le_refl _,Nat.zero_le _,Rd.nil _ _ _,rfl,Nat.le_refl _,Nat.zero_le _⟩
theorem zla {P : Program} {op : Oper} {a : Act} {w : World} {K : Act → World → Prop} {Q : Exit → Act → World → Prop} (ty : TypeId) (x y : Operand) (ho : op.op = .store ty x y)
  (c c':Array Value) (hx:a.eval x = .pointer (some ⟨w.heap.size,0,none⟩)) (hy:a.eval y = .agg c') (hi:(P.info? ty).map (·.size)=some c'.size) (hs:c.size=c'.size) (h1:c'.all (·.oneCell')=true)
  (h:K (a.put op.dst undef) (w.alloc (.cells c' ty))):op.wp P a (w.alloc (.cells c ty)) K Q:=by
 unfold Oper.wp execOp
 simp only [ho,hx,hy,Sem.run_bind,run_storeAt_new (P:=P) w ty c c' hi hs h1,Result.andThen_ok,Sem.run_pure]
 exact h
theorem zkc {P : Program} {op : Oper} {a : Act} {w : World} {K : Act → World → Prop} {Q : Exit → Act → World → Prop} (ty : TypeId) (x y : Operand) (ho : op.op = .store ty x y)
  (c c':Array Value) (b:Nat) (hb:b=w.heap.size) (hx:a.eval x = .pointer (some ⟨b,0,none⟩)) (hy:a.eval y = .agg c') (hi:(P.info? ty).map (·.size)=some c'.size) (hs:c.size=c'.size) (h1:c'.all (·.oneCell')=true)
  (h:K (a.put op.dst undef) ((w.alloc (.cells c' ty)).drew)):op.wp P a ((w.alloc (.cells c ty)).drew) K Q:=by
 subst hb
 exact zla (w:=w.drew) ty x y ho c c' hx hy hi hs h1 h
set_option maxHeartbeats 4000000 in
theorem Get_all (A : Option Addr) (n cap B : Nat) (xs : List Int) (w : World) (hx : Rd w B A (u8s xs)) (hn : xs.length = n) (hnc : n ≤ cap) (hcap : cap ≤ maxLen) (hB : B ≤ w.heap.size) (hb : ∀ x ∈ xs, 0 ≤ x ∧ x ≤ 255) (ht : Tab w) :
  Calls Tryz.prog 94 #[.slice A n cap] w fun e w'=>∃A1 n1 c1 A2 n2 c2,e = .returned (.tuple #[pv (Pm.get xs).1 A1 n1 c1 A2 n2 c2,.int .i64 (Pm.get xs).2])∧PlAt w' w'.heap.size (Pm.get xs).1 A1 n1 c1 A2 n2 c2∧Fr w.heap.size A1∧Fr w.heap.size A2∧Below w.heap.size w w':=by
 have hz1:(w.alloc (.cells (pvs Pm.zero none 0 0 none 0 0).toArray 34)).heap.size=w.heap.size+1:=World.size_alloc ..
 have hb1:=Lib.hid ((Below.refl w.heap.size w).alloc (Nat.le_refl _) (.cells (pvs Pm.zero none 0 0 none 0 0).toArray 34))
 have hth1:=Lib.hid (zby w (pvs Pm.zero none 0 0 none 0 0) 34)
 have HT3:=Lib.hid (zi3 A n cap B xs (w.alloc (.cells (pvs Pm.zero none 0 0 none 0 0).toArray 34)) (hx.below (hb1.out.mono hB)) hn hnc hcap (Nat.le_trans hB hb1.out.size) hb)
 have HT:=Lib.hid (ht.below hb1.out (Nat.le_refl _))
 have HZ1:=Lib.hid hz1
 have HB:=Lib.hid hb
 clear hx hn hb ht hz1
 go_enter Tryz.func94,Tryz.ntmps94
 go_wp2_with (go_at_call 106;fail)
 refine HT3.out.mono ?_
 rintro e w2 ⟨v0,v1,v2,rfl,⟨⟨A0,n0,c0,rfl⟩,⟨A1,n1,c1,rfl⟩,⟨A2,n2,c2,rfl⟩,hrow⟩,hb2'⟩
 rw [HZ1.out] at hb2' hrow
 have hb2:=Lib.hid hb2'
 have hz2:w.heap.size+1≤w2.heap.size:=by have:=hb2'.size;rw [HZ1.out] at this;exact this
 have hbw2:=Lib.hid (hb1.out.trans (hb2'.mono (Nat.le_succ _)))
 clear hb2' HT3
 cases hg:Pm.get3 xs with
 | none =>
   have HE:=Lib.hid (Pm.get_none hg)
   clear hrow hg
   dsimp only [Option.isSome]
   have hth3:Hid ((w2.alloc (.cells #[.slice A0 n0 c0,.slice A1 n1 c1,.slice A2 n2 c2] 163)).there w.heap.size 0 12):=World.there_alloc (za9 hth1.out hb2.out (Nat.lt_succ_self _)) _
   have hrng:=Lib.hid (World.rangeAt_setCells_same (w2.alloc (.cells #[.slice A0 n0 c0,.slice A1 n1 c1,.slice A2 n2 c2] 163)) w.heap.size 0 (pvs Pm.zero none 0 0 none 0 0) hth3.out)
   have hbe:=Lib.hid (below_grown (hbw2.out.alloc (by omega) (.cells #[.slice A0 n0 c0,.slice A1 n1 c1,.slice A2 n2 c2] 163)) (za6 w.heap.size (pvs Pm.zero none 0 0 none 0 0) 0 _) (Nat.le_refl _) (by rw [World.size_alloc];omega))
   go_wp2_with (refine wpList_store_mid rfl 34 _ _ rfl w.heap.size 0 (pvs Pm.zero none 0 0 none 0 0).toArray rfl rfl hth3.out za2 (zdg _ _ _ _ _ _ _) ?_)
   refine bodyPost_ret (zbd rfl _ _ w.heap.size (pvs Pm.zero none 0 0 none 0 0) _ rfl hrng.out Tryz.underlying34 rfl za2) rfl ?_
   exact ⟨none,0,0,none,0,0,by rw [HE.out];rfl,by rw [HE.out];exact zie _ _,Fr.none,Fr.none,hbe.out⟩
 | some q =>
   obtain ⟨l,m,o⟩:=q
   obtain ⟨hfit,hl0,hl1,hl2⟩:=Pm.zrc HB.out hg
   have HF:=Lib.hid hfit
   have HG:=Lib.hid hg
   obtain ⟨o0,o1,o2⟩:=hrow l m o hg
   clear hrow hg hfit
   dsimp only [Option.isSome]
   obtain ⟨_,_,e,hcp0,hcm0,hr0⟩:=za4 o0
   obtain ⟨_,_,e',hcp1,hcm1,hr1⟩:=za4 o1
   obtain ⟨_,_,e'',hcp2,hcm2,hr2⟩:=za4 o2
   injection e with ea en ec
   injection e' with ea' en' ec'
   injection e'' with ea'' en'' ec''
   subst ea ec ea' ec' ea'' ec''
   have HO0:=Lib.hid o0
   have HO1:=Lib.hid o1
   have HO2:=Lib.hid o2
   have hR1:=Lib.hid hr1
   have hR2:=Lib.hid hr2
   rw [←en] at hcp0
   rw [←en'] at hcp1
   rw [←en''] at hcp2
   have EN0:=Lib.hid en
   have EN1:=Lib.hid en'
   have EN2:=Lib.hid en''
   have hm1:n1≤64:=by omega
   have hm2:n2≤64:=by omega
   clear o0 o1 o2 hr0 hr1 hr2 en en' en'' hl0 hl1 hl2
   have hth3:Hid ((w2.alloc (.cells #[.slice A0 n0 c0,.slice A1 n1 c1,.slice A2 n2 c2] 163)).there w.heap.size 0 12):=World.there_alloc (za9 hth1.out hb2.out (Nat.lt_succ_self _)) _
   by_cases h10:n0=10
   ·subst h10
    obtain ⟨g,cg,eg,-,-⟩:=HO0.out.form (by have:=EN0.out;omega)
    injection eg with eg elen ec
    subst eg ec
    clear elen
    have hb3:=Lib.hid (hbw2.out.alloc (o:=.cells #[.slice (some ⟨g,0,none⟩) 10 c0,.slice A1 n1 c1,.slice A2 n2 c2] 163) (by omega))
    have hk3:Hid (Below w2.heap.size w2 (w2.alloc (.cells #[.slice (some ⟨g,0,none⟩) 10 c0,.slice A1 n1 c1,.slice A2 n2 c2] 163))):=(Below.refl _ _).alloc (Nat.le_refl _) _
    have hz3:Hid ((w2.alloc (.cells #[.slice (some ⟨g,0,none⟩) 10 c0,.slice A1 n1 c1,.slice A2 n2 c2] 163)).heap.size=w2.heap.size+1):=World.size_alloc ..
    have hgl:g < w2.heap.size:=(HO0.out.lt g rfl).2
    have HR0:Hid (∀(W:World),Below (w2.heap.size+1) (w2.alloc (.cells #[.slice (some ⟨g,0,none⟩) 10 c0,.slice A1 n1 c1,.slice A2 n2 c2] 163)) W→W.rangeAt g 0 (i64s l)):=fun W h j v hv=>by
     have h0:w2.ownsRow (w.heap.size+1) 2 1 (.slice (some ⟨g,0,none⟩) l.length c0) l.length (i64s l):=by rw [←EN0.out];have:=HO0.out;rw [←EN0.out] at this;exact this
     have hc:=zfe h0 j v hv
     rw [h.cell (by show g < _;omega),hk3.out.cell (by exact hgl)]
     exact hc
    have HC3:Hid (∀(W:World),Below (w2.heap.size+1) (w2.alloc (.cells #[.slice (some ⟨g,0,none⟩) 10 c0,.slice A1 n1 c1,.slice A2 n2 c2] 163)) W→W.cell? ⟨w2.heap.size,0,none⟩=some (.slice (some ⟨g,0,none⟩) 10 c0)∧W.cell? ⟨w2.heap.size,1,none⟩=some (.slice A1 n1 c1)∧W.cell? ⟨w2.heap.size,2,none⟩=some (.slice A2 n2 c2)):=fun W h=>by
     have hlt:∀j,(⟨w2.heap.size,j,none⟩ : Addr).block < w2.heap.size+1:=fun j=>Nat.lt_succ_self _
     refine ⟨?_,?_,?_⟩
     ·rw [h.cell (hlt 0),World.cell?_alloc_at (hn:=rfl)];rfl
     ·rw [h.cell (hlt 1),World.cell?_alloc_at (hn:=rfl)];rfl
     ·rw [h.cell (hlt 2),World.cell?_alloc_at (hn:=rfl)];rfl
    have hln:Hid ((Tryz.prog.info? 154).map (·.size)=some (i64s l).length):=by rw [List.length_map,←EN0.out];exact zin
    go_wp2_with fail
    refine zc6 (fun W=>Below (w2.heap.size+1) (w2.alloc (.cells #[.slice (some ⟨g,0,none⟩) 10 c0,.slice A1 n1 c1,.slice A2 n2 c2] 163)) W) (by kernel_rfl) ?_
    have hC:Below (w2.heap.size+1) (w2.alloc (.cells #[.slice (some ⟨g,0,none⟩) 10 c0,.slice A1 n1 c1,.slice A2 n2 c2] 163)) (w2.alloc (.cells #[.slice (some ⟨g,0,none⟩) 10 c0,.slice A1 n1 c1,.slice A2 n2 c2] 163)).drew:=(Below.refl _ _).drew
    refine zaf (i:=0) (v := ?v0_82) (a' := ?a0_82) rfl (by kernel_rfl) (by kernel_rfl) (by kernel_rfl) (fun _ _ _ h=>h) hC ?w0_82 ?y0_82 ?f0_82 ?r0_82
    case w0_82=>kernel_rfl
    case y0_82=>(intro w hC;go_simp;try with_reducible rfl)
    case f0_82=>(go_simp;try with_reducible rfl)
    refine zaf (i:=4) (v := ?v4_83) (a' := ?a4_83) rfl (by kernel_rfl) (by kernel_rfl) (by kernel_rfl) (fun _ _ _ h=>h) hC ?w4_83 ?y4_83 ?f4_83 ?r4_83
    case w4_83=>kernel_rfl
    case y4_83=>(intro w hC;go_simp;try with_reducible rfl)
    case f4_83=>(go_simp;try with_reducible rfl)
    refine zaf (i:=6) (v := ?v6_84) (a' := ?a6_84) rfl (by kernel_rfl) (by kernel_rfl) (by kernel_rfl) (fun _ _ _ h=>h) hC ?w6_84 ?y6_84 ?f6_84 ?r6_84
    case w6_84=>kernel_rfl
    case y6_84=>(intro w hC;go_simp;try with_reducible rfl)
    case f6_84=>(go_simp;try with_reducible rfl)
    refine zaf (i:=1) (v := ?v1_85) (a' := ?a1_85) rfl (by kernel_rfl) (by kernel_rfl) (by kernel_rfl) (fun _ _ _ h=>h) hC ?w1_85 ?y1_85 ?f1_85 ?r1_85
    case w1_85=>kernel_rfl
    case y1_85=>(intro w hC;have h4:=(HC3.out w hC).1;go_simp;try with_reducible rfl)
    case f1_85=>(go_simp;try with_reducible rfl)
    refine zaf (i:=5) (v := ?v5_86) (a' := ?a5_86) rfl (by kernel_rfl) (by kernel_rfl) (by kernel_rfl) (fun _ _ _ h=>h) hC ?w5_86 ?y5_86 ?f5_86 ?r5_86
    case w5_86=>kernel_rfl
    case y5_86=>(intro w hC;have h4:=(HC3.out w hC).2.1;go_simp;try with_reducible rfl)
    case f5_86=>(go_simp;try with_reducible rfl)
    refine zaf (i:=7) (v := ?v7_87) (a' := ?a7_87) rfl (by kernel_rfl) (by kernel_rfl) (by kernel_rfl) (fun _ _ _ h=>h) hC ?w7_87 ?y7_87 ?f7_87 ?r7_87
    case w7_87=>kernel_rfl
    case y7_87=>(intro w hC;have h4:=(HC3.out w hC).2.2;go_simp;try with_reducible rfl)
    case f7_87=>(go_simp;try with_reducible rfl)
    refine zaf (i:=2) (v := ?v2_88) (a' := ?a2_88) rfl (by kernel_rfl) (by kernel_rfl) (by kernel_rfl) (fun _ _ _ h=>h) hC ?w2_88 ?y2_88 ?f2_88 ?r2_88
    case w2_88=>kernel_rfl
    case y2_88=>(intro w hC;have h4:=run_arrayAt (P:=Tryz.prog) w 154 _ 10 (some ⟨g,0,none⟩) 10 c0 Tryz.underlying154 (Nat.le_refl _);go_simp;try with_reducible rfl)
    case f2_88=>(go_simp;try with_reducible rfl)
    refine zaf (i:=3) (v := ?v3_89) (a' := ?a3_89) rfl (by kernel_rfl) (by kernel_rfl) (by kernel_rfl) (fun _ _ _ h=>h) hC ?w3_89 ?y3_89 ?f3_89 ?r3_89
    case w3_89=>kernel_rfl
    case y3_89=>(intro W hW;exact by refine zbw 154 (.tmp 25) ?_ g ?_ (i64s l) _ (HR0.out _ hW) Tryz.underlying154 rfl hln.out<;>rfl)
    case f3_89=>(go_simp;try with_reducible rfl)
    refine za5 (i:=8) rfl (by kernel_rfl) (by kernel_rfl) (fun K hK => ?_)
    go_simp
    have hC5:Below (w2.heap.size+1) (w2.alloc (.cells #[.slice (some ⟨g,0,none⟩) 10 c0,.slice A1 n1 c1,.slice A2 n2 c2] 163)) ((w2.alloc (.cells #[.slice (some ⟨g,0,none⟩) 10 c0,.slice A1 n1 c1,.slice A2 n2 c2] 163)).alloc (.cells #[.int .i64 0,.int .i64 0,.int .i64 0,.int .i64 0,.int .i64 0,.int .i64 0,.int .i64 0,.int .i64 0,.int .i64 0,.int .i64 0] 154)).drew:=((Below.refl _ _).alloc (by rw [hz3.out];exact Nat.le_refl _) _).drew
    refine hK _ _ ⟨hC5,?_⟩
    clear hK K
    refine za5 (i:=9) rfl (by kernel_rfl) (by kernel_rfl) (fun K hK => ?_)
    refine zkc 154 (.tmp 6) (.tmp 26) rfl _ (i64s l).toArray (w2.heap.size+1) hz3.out.symm rfl rfl hln.out (by show 10=(i64s l).length;rw [List.length_map];exact EN0.out) (zdk _) ?_
    have hC6:Below (w2.heap.size+1) (w2.alloc (.cells #[.slice (some ⟨g,0,none⟩) 10 c0,.slice A1 n1 c1,.slice A2 n2 c2] 163)) ((w2.alloc (.cells #[.slice (some ⟨g,0,none⟩) 10 c0,.slice A1 n1 c1,.slice A2 n2 c2] 163)).alloc (.cells (i64s l).toArray 154)).drew:=((Below.refl _ _).alloc (by rw [hz3.out];exact Nat.le_refl _) _).drew
    refine hK _ _ ⟨hC6,?_⟩
    clear hK K
    go_simp
    refine zaf (i:=10) (v := ?v10_90) (a' := ?a10_90) rfl (by kernel_rfl) (by kernel_rfl) (by kernel_rfl) (fun _ _ _ h=>h) hC6 ?w10_90 ?y10_90 ?f10_90 ?r10_90
    case w10_90=>kernel_rfl
    case y10_90=>(intro w hC;go_simp;try with_reducible rfl)
    case f10_90=>(go_simp;try with_reducible rfl)
    refine zaf (i:=11) (v := ?v11_91) (a' := ?a11_91) rfl (by kernel_rfl) (by kernel_rfl) (by kernel_rfl) (fun _ _ _ h=>h) hC6 ?w11_91 ?y11_91 ?f11_91 ?r11_91
    case w11_91=>kernel_rfl
    case y11_91=>(intro w hC;go_simp;try with_reducible rfl)
    case f11_91=>(go_simp;try with_reducible rfl)
    refine zbc (by kernel_rfl) ?_
    have hk6:Below w2.heap.size w2 ((w2.alloc (.cells #[.slice (some ⟨g,0,none⟩) 10 c0,.slice A1 n1 c1,.slice A2 n2 c2] 163)).alloc (.cells (i64s l).toArray 154)).drew:=hk3.out.trans (hC6.mono (Nat.le_succ _))
    have hr6:((w2.alloc (.cells #[.slice (some ⟨g,0,none⟩) 10 c0,.slice A1 n1 c1,.slice A2 n2 c2] 163)).alloc (.cells (i64s l).toArray 154)).drew.rangeAt (w2.heap.size+1) 0 (i64s l):=by
     rw [World.rangeAt_drew]
     intro j v hv
     obtain ⟨ad,e,_,hc⟩:=(Rd.new (w2.alloc (.cells #[.slice (some ⟨g,0,none⟩) 10 c0,.slice A1 n1 c1,.slice A2 n2 c2] 163)) (w2.heap.size+2) (i64s l) 154 (0,0) (by rw [hz3.out];omega)) j v hv
     cases e
     rw [Addr.add_mid,hz3.out] at hc
     exact hc
    have hz6:w2.heap.size+2≤((w2.alloc (.cells #[.slice (some ⟨g,0,none⟩) 10 c0,.slice A1 n1 c1,.slice A2 n2 c2] 163)).alloc (.cells (i64s l).toArray 154)).drew.heap.size:=by
     show _≤((w2.alloc _).alloc _).heap.size
     rw [World.size_alloc,hz3.out];exact Nat.le_refl _
    clear hC hC5 hC6 HR0 HC3 hb3 hk3 hz3 hth3
    generalize ((w2.alloc (.cells #[.slice (some ⟨g,0,none⟩) 10 c0,.slice A1 n1 c1,.slice A2 n2 c2] 163)).alloc (.cells (i64s l).toArray 154)).drew=w6 at *
    have HK6:=Lib.hid hk6
    have HR6:=Lib.hid hr6
    have hb6:=Lib.hid (hbw2.out.trans (hk6.mono (by omega)))
    have hth6:Hid (w6.there w.heap.size 0 12):=za9 (za9 hth1.out hb2.out (Nat.lt_succ_self _)) hk6 (by omega)
    have hT6:=Lib.hid ((HT.out.below hb2.out (by rw [HZ1.out];exact Nat.le_refl _)).below hk6 (Nat.le_refl _))
    have HRT:=Lib.hid (zou l A1 A2 n1 n2 c1 c2 w2.heap.size m o w6 EN0.out.symm (hR1.out.below hk6) EN1.out.symm (by unfold maxLen;omega) (hR2.out.below hk6) EN2.out.symm (by unfold maxLen;omega) (by omega) hT6.out)
    have hln':=hln
    clear hk6 hr6 hgl
    go_wp2_with (first|(refine wpList_load_mid rfl 154 _ rfl (w2.heap.size+1) 0 rfl (i64s l) _ HR6.out Tryz.underlying154 rfl hln.out ?_)|(go_at_call 107;fail))
    refine HRT.out.mono ?_
    rintro e w7 ⟨rfl,hb7'⟩
    have hb7:=Lib.hid (hb6.out.trans (hb7'.mono hb6.out.size))
    have hk7:=Lib.hid (HK6.out.trans (hb7'.mono (by omega)))
    have hth7:Hid (w7.there w.heap.size 0 12):=za9 hth6.out hb7' (by omega)
    have hr7:Hid (w7.rangeAt (w2.heap.size+1) 0 (i64s l)):=fun j v hv=>by rw [hb7'.cell (by show w2.heap.size+1 < _;omega)];exact HR6.out j v hv
    have hz7:=Nat.le_trans hz6 hb7'.size
    clear hb7' hb6 hth6 HRT HR6 HK6 hT6
    by_cases hrt:Pm.Rt l m o
    ·have hyes:=Pm.zbp hrt
     have HE:=Lib.hid (Pm.zlm HG.out EN0.out.symm hyes)
     rw [hyes]
     clear hrt hyes
     go_wp2_with fail
     refine zc6 (fun W=>W.rangeAt (w2.heap.size+1) 0 (i64s l)) (by kernel_rfl) ?_
     have hC:w7.drew.rangeAt (w2.heap.size+1) 0 (i64s l):=by rw [World.rangeAt_drew];exact hr7.out
     refine zaf (i:=0) (v := ?v0_92) (a' := ?a0_92) rfl (by kernel_rfl) (by kernel_rfl) (by kernel_rfl) (fun _ _ _ h=>h) hC ?w0_92 ?y0_92 ?f0_92 ?r0_92
     case w0_92=>kernel_rfl
     case y0_92=>(intro W hW;exact by refine zbw 154 (.tmp 6) ?_ (w2.heap.size+1) ?_ (i64s l) _ hW Tryz.underlying154 rfl hln.out<;>rfl)
     case f0_92=>(go_simp;try with_reducible rfl)
     refine zaf (i:=1) (v := ?v1_93) (a' := ?a1_93) rfl (by kernel_rfl) (by kernel_rfl) (by kernel_rfl) (fun _ _ _ h=>h) hC ?w1_93 ?y1_93 ?f1_93 ?r1_93
     case w1_93=>kernel_rfl
     case y1_93=>(intro w hC;go_simp;try with_reducible rfl)
     case f1_93=>(go_simp;try with_reducible rfl)
     refine zaf (i:=3) (v := ?v3_94) (a' := ?a3_94) rfl (by kernel_rfl) (by kernel_rfl) (by kernel_rfl) (fun _ _ _ h=>h) hC ?w3_94 ?y3_94 ?f3_94 ?r3_94
     case w3_94=>kernel_rfl
     case y3_94=>(intro w hC;go_simp;try with_reducible rfl)
     case f3_94=>(go_simp;try with_reducible rfl)
     refine za5 (i:=2) rfl (by kernel_rfl) (by kernel_rfl) (fun K hK => ?_)
     go_simp
     refine (zrt A1 n1 c1 w2.heap.size m w7.drew (hR1.out.below hk7.out.drew) EN1.out.symm (by show _≤w7.heap.size;omega) hm1).mono ?_
     rintro e w8 ⟨v8,rfl,hown8,hb8'⟩
     have hb8:Below w7.heap.size w7 w8:=(Below.refl _ w7).drew.trans hb8'
     have hown8':w8.ownsRow w7.heap.size 3 1 v8 m.length (i64s m):=hown8
     obtain ⟨A8,c8,rfl,hcp8,hcm8,-⟩:=za4 hown8
     have hC8:w8.rangeAt (w2.heap.size+1) 0 (i64s l):=fun j v hv=>by rw [hb8.cell (by show w2.heap.size+1 < _;omega)];exact hr7.out j v hv
     refine hK _ _ ⟨hC8,?_⟩
     clear hK K hown8 hb8' hC
     have HO8:=Lib.hid hown8'
     have HB8:=Lib.hid hb8
     have hz8:=hb8.size
     clear hown8' hb8
     refine za5 (i:=4) rfl (by kernel_rfl) (by kernel_rfl) (fun K hK => ?_)
     go_simp
     refine (zo1 l m o EN0.out.symm HF.out.1 A8 m.length c8 A2 n2 c2 w8).mono ?_
     rintro e w9 ⟨rfl,hb9⟩
     have hb79:=Lib.hid (HB8.out.trans (hb9.mono hz8))
     have hC9:w9.rangeAt (w2.heap.size+1) 0 (i64s l):=fun j v hv=>by rw [hb79.out.cell (by show w2.heap.size+1 < _;omega)];exact hr7.out j v hv
     have HO9:=Lib.hid (own_below HO8.out hb9 (Nat.le_refl _))
     have hz9:=Nat.le_trans hz8 hb9.size
     refine hK _ _ ⟨hC9,?_⟩
     clear hK K hC8 hb9
     have hth9:Hid (w9.there w.heap.size 0 12):=za9 hth7.out hb79.out (by omega)
     refine za5 (i:=5) rfl (by kernel_rfl) (by kernel_rfl) (fun K hK => ?_)
     refine wp_store_mid 34 (.tmp 2) (.tmp 41) rfl w.heap.size 0 (pvs (Pm.plOf l m o) A8 m.length c8 A2 n2 c2).toArray rfl rfl hth9.out za2 (zdg _ _ _ _ _ _ _) ?_
     have hg9:=za6 w.heap.size (pvs (Pm.plOf l m o) A8 m.length c8 A2 n2 c2) 0 w9
     have hrng:=Lib.hid (World.rangeAt_setCells_same w9 w.heap.size 0 (pvs (Pm.plOf l m o) A8 m.length c8 A2 n2 c2) hth9.out)
     have hC10:(w9.setCells w.heap.size 0 (pvs (Pm.plOf l m o) A8 m.length c8 A2 n2 c2)).rangeAt (w2.heap.size+1) 0 (i64s l):=World.rangeAt_setCells_apart hC9 w.heap.size 0 _ (.inl (by omega))
     refine hK _ _ ⟨hC10,?_⟩
     clear hK K
     go_simp
     refine zaf (i:=6) (v := ?v6_95) (a' := ?a6_95) rfl (by kernel_rfl) (by kernel_rfl) (by kernel_rfl) (fun _ _ _ h=>h) hC10 ?w6_95 ?y6_95 ?f6_95 ?r6_95
     case w6_95=>kernel_rfl
     case y6_95=>(intro w hC;go_simp;try with_reducible rfl)
     case f6_95=>(go_simp;try with_reducible rfl)
     refine zbc (by kernel_rfl) ?_
     have hbe:=Lib.hid (below_grown (hb7.out.trans (hb79.out.mono (by omega))) hg9 (Nat.le_refl _) (by omega))
     have own8:=zdo HO9.out hg9 (by omega)
     have own2:=zdo (own_below (own_below HO2.out hk7.out (Nat.le_refl _)) hb79.out (Nat.le_refl _)) hg9 (Nat.lt_succ_self _)
     obtain ⟨_,_,e8,-,-,rd8⟩:=za4 own8
     injection e8 with e8
     subst e8
     obtain ⟨_,_,e2,-,-,rd2⟩:=za4 own2
     injection e2 with e2
     subst e2
     have hF8:Hid (Fr w.heap.size A8):=fun ad e=>Nat.le_trans (by omega) (zji own8 ad e)
     have hF2:Hid (Fr w.heap.size A2):=fun ad e=>Nat.le_trans (by omega) (zji own2 ad e)
     have hPA:Hid (PlAt (w9.setCells w.heap.size 0 (pvs (Pm.plOf l m o) A8 m.length c8 A2 n2 c2)) (w9.setCells w.heap.size 0 (pvs (Pm.plOf l m o) A8 m.length c8 A2 n2 c2)).heap.size (Pm.plOf l m o) A8 m.length c8 A2 n2 c2) :=
      ⟨Pm.ok_plOf HF.out.1 HF.out.2.1 HF.out.2.2,rd8,rfl,hcp8,hcm8,rd2,EN2.out.symm,hcp2,hcm2⟩
     generalize w9.setCells w.heap.size 0 (pvs (Pm.plOf l m o) A8 m.length c8 A2 n2 c2)=wz at *
     clear own8 own2 rd8 rd2 hg9 hC10 hC9
     go_wp2
     refine bodyPost_ret (zbd rfl _ _ w.heap.size (pvs (Pm.plOf l m o) A8 m.length c8 A2 n2 c2) _ rfl hrng.out Tryz.underlying34 rfl za2) rfl ?_
     exact ⟨A8,m.length,c8,A2,n2,c2,by rw [HE.out];rfl,by rw [HE.out];exact hPA.out,hF8.out,hF2.out,hbe.out⟩
    ·have hno:=Pm.zba hrt
     have HE:=Lib.hid (Pm.get_no HG.out (fun h=>by have:=h.2;rw [hno] at this;cases this))
     rw [hno]
     clear hrt hno
     have hrng:=Lib.hid (World.rangeAt_setCells_same w7 w.heap.size 0 (pvs Pm.zero none 0 0 none 0 0) hth7.out)
     have hbe:=Lib.hid (below_grown hb7.out (za6 w.heap.size (pvs Pm.zero none 0 0 none 0 0) 0 _) (Nat.le_refl _) (by omega))
     go_wp2_with (refine wpList_store_mid rfl 34 _ _ rfl w.heap.size 0 (pvs Pm.zero none 0 0 none 0 0).toArray rfl rfl hth7.out za2 (zdg _ _ _ _ _ _ _) ?_)
     refine bodyPost_ret (zbd rfl _ _ w.heap.size (pvs Pm.zero none 0 0 none 0 0) _ rfl hrng.out Tryz.underlying34 rfl za2) rfl ?_
     exact ⟨none,0,0,none,0,0,by rw [HE.out];rfl,by rw [HE.out];exact zie _ _,Fr.none,Fr.none,hbe.out⟩
   ·have hq:((n0:Int) != 10)=true:=by rw [bne_iff_ne];omega
    have HE:=Lib.hid (Pm.get_no HG.out (fun h=>h10 (by have:=EN0.out;have:=h.1;omega)))
    have hrng:=Lib.hid (World.rangeAt_setCells_same (w2.alloc (.cells #[.slice A0 n0 c0,.slice A1 n1 c1,.slice A2 n2 c2] 163)) w.heap.size 0 (pvs Pm.zero none 0 0 none 0 0) hth3.out)
    have hbe:=Lib.hid (below_grown (hbw2.out.alloc (by omega) (.cells #[.slice A0 n0 c0,.slice A1 n1 c1,.slice A2 n2 c2] 163)) (za6 w.heap.size (pvs Pm.zero none 0 0 none 0 0) 0 _) (Nat.le_refl _) (by rw [World.size_alloc];omega))
    go_wp2_with (refine wpList_store_mid rfl 34 _ _ rfl w.heap.size 0 (pvs Pm.zero none 0 0 none 0 0).toArray rfl rfl hth3.out za2 (zdg _ _ _ _ _ _ _) ?_)
    refine bodyPost_ret (zbd rfl _ _ w.heap.size (pvs Pm.zero none 0 0 none 0 0) _ rfl hrng.out Tryz.underlying34 rfl za2) rfl ?_
    exact ⟨none,0,0,none,0,0,by rw [HE.out];rfl,by rw [HE.out];exact zie _ _,Fr.none,Fr.none,hbe.out⟩
end Go.Proofs.YtponpgcpmlcdpaaGreatDoor
