import Derived.Test.YtponpgcpmlcdpaaGreatDoorBMa
import Derived.Test.YtponpgcpmlcdpaaGreatDoorBMf
namespace Go.Proofs.YtponpgcpmlcdpaaGreatDoor
open Go.RowKit Go.Shelf
theorem zlt {P : Program} {a : Act} {o : Oper} {w : World} (ty : TypeId) (x : Operand) (ho : o.op = .load ty x) (b k : Nat) (hx : a.eval x = .pointer (some ⟨b, k, none⟩)) (cs : List Value) (d : TypeDesc) (hr : w.rangeAt b k cs)
  (hu:P.underlying ty=some d) (hd:d.isRow=true) (hi:(P.info? ty).map (·.size)=some cs.length):(execOp a.eval o).run P w = .ok (.value (.agg cs.toArray)) w:=by
 unfold execOp
 simp only [ho,hx,Instr.loadAt,Instr.sureAddr,Sem.run_bind,Sem.run_pure,Result.andThen_ok,run_loadVar_mid w b k ty cs d hr hu hd hi]
theorem zmz:Tryz.prog.eqGuardType Tryz.prog.depth 126=false:=by kernel_rfl
theorem zmy (xs ys:List Int) (hx:xs.length=10) (hy:ys.length=10) (w:World):(Op.equalIn 10000 126 (.agg (i64s xs).toArray) (.agg (i64s ys).toArray)).run Tryz.prog w = .ok (xs == ys) w:=by
 obtain ⟨i0,hi,_,hz1,_⟩:=info_parts zki
 exact ze8 w 9998 126 2 10 Tryz.underlying126 Tryz.underlying2 (zbo hi hz1) xs ys hx hy
end Go.Proofs.YtponpgcpmlcdpaaGreatDoor
namespace Go.Proofs.YtponpgcpmlcdpaaGreatDoor
open Go.RowKit Go.Shelf
theorem zn4:(Tryz.prog.info? 122).map (·.size)=some 2:=by kernel_rfl
set_option maxRecDepth 100000 in
set_option maxHeartbeats 8000000 in
theorem MOf_any (k : Int) (A : Option Addr) (n cap B : Nat) (xs : List Int) (w : World) (hk : 0 ≤ k ∧ k ≤ 255) (hx : Rd w B A (u8s xs)) (hn : xs.length = n) (hnc : n ≤ cap) (hcap : cap ≤ maxLen) (hB : B ≤ w.heap.size) (hb : Fm.By xs) (ht : Tab w) :
  Calls Tryz.prog 56 #[.int .u8 k,.slice A n cap] w fun e w'=>∃l,e = .returned (.tuple #[mv (Mm.of k xs).1 l,.int .i64 (Mm.of k xs).2])∧MsAt w' w'.heap.size (Mm.of k xs).1 l∧LoFr w.heap.size l∧Below w.heap.size w w':=by
 have hk64:IntKind.i64.wrap k=k:=by simp [IntKind.wrap,IntKind.signed,IntKind.bits];omega
 have HK:=Lib.hid hk
 have hz1:(w.alloc (.cells (mvs Mm.zero Lo.zero).toArray 37)).heap.size=w.heap.size+1:=World.size_alloc ..
 have hz2:((w.alloc (.cells (mvs Mm.zero Lo.zero).toArray 37)).alloc (.cells (rdvs A n cap 0 0).toArray 124)).heap.size=w.heap.size+2:=by rw [World.size_alloc,hz1]
 have hb2:Below w.heap.size w ((w.alloc (.cells (mvs Mm.zero Lo.zero).toArray 37)).alloc (.cells (rdvs A n cap 0 0).toArray 124)):=((Below.refl _ w).alloc (Nat.le_refl _) _).alloc (by omega) _
 have hr0:Rdr ((w.alloc (.cells (mvs Mm.zero Lo.zero).toArray 37)).alloc (.cells (rdvs A n cap 0 0).toArray 124)) (w.heap.size+1) A n cap 0 0:=by
  have h1:=zct (w.alloc (.cells (mvs Mm.zero Lo.zero).toArray 37)) (rdvs A n cap 0 0) 124
  have h2:=zby (w.alloc (.cells (mvs Mm.zero Lo.zero).toArray 37)) (rdvs A n cap 0 0) 124
  rw [hz1] at h1 h2
  exact ⟨h1,h2⟩
 have ht4:((w.alloc (.cells (mvs Mm.zero Lo.zero).toArray 37)).alloc (.cells (rdvs A n cap 0 0).toArray 124)).there w.heap.size 0 26:=World.there_alloc (zby w (mvs Mm.zero Lo.zero) 37) _
 have HN:=Lib.hid (zqa (w.heap.size+1) A n cap B xs 0 0 _ hr0 (by omega) (by rw [hz2];omega) (hx.below (hb2.mono hB)) hn hnc hcap hb (fun _=>⟨by omega,by omega⟩))
 rw [Mm.zcf (s:=(0,0)) rfl] at HN
 have H2:=Lib.hid (And.intro hz2 (And.intro hb2 ht4))
 have HX:=Lib.hid hx
 have HT:=Lib.hid ht
 have HBY:=Lib.hid hb
 have HNL:=Lib.hid hn
 have HFN:=Lib.hid (Mm.fits_N hb)
 have HPN:=Lib.hid (Mm.pl_N hb)
 have HS2:Hid (Mm.s2 xs=if (Mm.rN xs 0).1.getD 9 0=1 then Mm.zco Pm.zero (Mm.rN xs 0).2 (Mm.rP xs) else (Pm.zero,(Mm.rN xs 0).2)):=rfl
 have HG:Hid (Mm.got k xs={ Mm.msOf k (Mm.rN xs 0).1 with plan:=(Mm.s2 xs).1,id:=(Mm.s3 xs).1,se:=(Mm.s4 xs).1,pa:=(Mm.s5 xs).1 }):=rfl
 have HNE:Hid ((Mm.got k xs).nums≠(Mm.rN xs 0).1→Mm.of k xs=(Mm.zero,51)):=fun h=>Mm.of_no fun g=>h g.2.2.1
 have HOK:Hid ((Mm.s5 xs).2.2=0→(Mm.s5 xs).2.1=(xs.length:Int)→(Mm.got k xs).nums=(Mm.rN xs 0).1→(Mm.got k xs).right=true→Mm.of k xs=(Mm.got k xs,0)):=fun h1 h2 h3 h4=>Mm.of_ok ⟨h1,h2,h3,h4⟩
 have HNLEN:=Lib.hid (Mm.rN_len xs 0)
 have HS3:Hid (Mm.s3 xs=Mm.zco [] (Mm.s2 xs).2 (Wm.za1 xs)):=rfl
 have HS4:Hid (Mm.s4 xs=Mm.zco [] (Mm.s3 xs).2 (Wm.zbl xs)):=rfl
 have HS5:Hid (Mm.s5 xs=Mm.zco [] (Mm.s4 xs).2 (Wm.zbl xs)):=rfl
 have HP2:=Lib.hid (Mm.pl_s2 hb)
 have HP3:=Lib.hid (Mm.pl_s3 hb)
 have HP4:=Lib.hid (Mm.pl_s4 hb)
 have HF3:Hid (Wm.Fits (Mm.s3 xs).1):=Mm.zrh hb (Mm.pl_s2 hb)
 have HF4:Hid (Fm.By (Mm.s4 xs).1):=Mm.zrz hb (Mm.pl_s3 hb)
 have HF5:Hid (Fm.By (Mm.s5 xs).1):=Mm.zrz hb (Mm.pl_s4 hb)
 have HB5:Hid ((Mm.s5 xs).2.2≠0→Mm.of k xs=(Mm.zero,51)):=Mm.bad5
 have HBL:Hid ((Mm.s5 xs).2.1≠(xs.length:Int)→Mm.of k xs=(Mm.zero,51)):=Mm.badL
 have HBR:Hid ((Mm.got k xs).right=false→Mm.of k xs=(Mm.zero,51)):=Mm.badR
 clear hx ht hb hn hr0 ht4 hz1 hz2 hb2 hk
 generalize Mm.rN xs 0=q at *
 obtain ⟨ns,a1,e1⟩:=q
 dsimp only at *
 generalize Mm.of k xs=Y at *
 generalize Mm.got k xs=X at *
 generalize Mm.s5 xs=q5 at *
 generalize Mm.s4 xs=q4 at *
 generalize Mm.s3 xs=q3 at *
 generalize Mm.s2 xs=q2 at *
 go_enter Tryz.func56,Tryz.ntmps56
 go_wp2_with (go_at_call 78;fail)
 refine HN.out.mono ?_
 rintro e w2 ⟨rfl,hr2,hg2⟩
 obtain ⟨z2,b2,t2⟩:=H2.out
 have hz2:w.heap.size+2≤w2.heap.size:=by have:=hg2.size;rwa [z2] at this
 have hb2:=Lib.hid (below_grown b2 hg2 (by omega) b2.size)
 have ht2:=Lib.hid (zb0 t2 hg2 (by omega) (by rw [z2];omega))
 have hr2':=Lib.hid hr2
 clear z2 b2 t2 hg2 hr2 H2 HN
 have hs1:Hid ((Tryz.prog.info? 126).map (·.size)=some (i64s ns).toArray.size):=by rw [List.size_toArray,zed,HNLEN.out];exact Lib.hid zbi
 have hs2:Hid ((Tryz.prog.info? 126).map (·.size)=some (i64s ns).length):=by rw [zed,HNLEN.out];exact Lib.hid zbi
 have hs3:Hid (10=(i64s ns).toArray.size):=by rw [List.size_toArray,zed,HNLEN.out];exact Lib.hid rfl
 have hone:=Lib.hid (zdk ns)
 have hrn:=Lib.hid (zct w2 (i64s ns) 126)
 have HM:=Lib.hid (zqw ns HNLEN.out HFN.out (w2.alloc (.cells (i64s ns).toArray 126)))
 go_wp2_with (first|((with_reducible refine zax ?_);refine zbm rfl 126 _ _ rfl _ (i64s ns).toArray rfl rfl hs1.out hs3.out hone.out ?_)|((with_reducible refine zax ?_);refine wpList_load_mid rfl 126 _ rfl w2.heap.size 0 rfl (i64s ns) _ hrn.out Tryz.underlying126 rfl hs2.out ?_)|(go_at_call 80;fail))
 refine HM.out.mono ?_
 rintro e w3 ⟨rfl,hb3⟩
 have h4:=Ofs.start (ns:=ns) HFN.out ht2.out hr2'.out hz2 hb2.out hb3
 have h5:=Lib.hid (h4.kind k (Mm.k_fit HK.out))
 obtain ⟨k0,f0⟩:=h4.cell 0 rfl
 obtain ⟨k10,-⟩:=h5.out.cell 10 rfl
 have ho:Hid ((mvs (Mm.msOf 0 ns) Lo.zero).toArray.all (·.oneCell')=true):=zd6 _ _
 have hi:Hid ((Tryz.prog.info? 37).map (·.size)=some (mvs (Mm.msOf 0 ns) Lo.zero).toArray.size):=zbn
 have hl:Hid (26=(mvs (Mm.msOf 0 ns) Lo.zero).toArray.size):=rfl
 clear h4 hb3 HM hb2 ht2 hr2' hrn hone hs1 hs2 hs3 hz2
 have way:ns.getD 9 0=1∨ns.getD 9 0≠1:=by omega
 rcases way with h9|h9
 case' inl =>
  rw [if_pos h9] at HS2
  rw [show (Mm.msOf 0 ns).has=true from decide_eq_true h9] at k10
  clear h9
  go_wp2_with (first|((with_reducible refine zax ?_);refine zbm rfl 37 _ _ rfl _ (mvs (Mm.msOf 0 ns) Lo.zero).toArray rfl rfl hi.out hl.out ho.out ?_;generalize World.alloc w3 _=w4 at *)|(go_at_call 81;fail))
  clear k0 f0 k10 ho hi hl
  generalize World.setCell _ _ _=w5 at *
  have HRP:=Lib.hid (zp9 (w.heap.size+1) A n cap B xs a1 e1 w5 h5.out.r (by omega) (by have:=h5.out.h1;have:=h5.out.h2;have:=h5.out.h3;omega) (HX.out.below (h5.out.bel.mono hB)) HNL.out hnc hcap HBY.out (HT.out.below h5.out.bel (Nat.le_refl _)) (HPN.out.bounds HNL.out hnc hcap))
  rw [←HS2.out] at HRP
  refine HRP.out.mono ?_
  rintro e w5b ⟨A1,n1,c1,A2,n2,c2,rfl,hpl,hf1,hf2,hr6,hg6⟩
  have h6:=h5.out.read hr6 hg6
  have ht6:=Lib.hid (zb6 h6.t8 (p:=11) (m:=12) (Nat.zero_le _) (by omega))
  obtain ⟨x,l,hx0,h7⟩ : ∃x l,Hid (x={ Mm.msOf k ns with plan:=q2.1 })∧Hid (Ofs w (w5b.setCells w3.heap.size 11 (pvs (q2).1 A1 n1 c1 A2 n2 c2)) A n cap (q2).2.1 (q2).2.2 w2.heap.size w3.heap.size ns x l):=⟨_,_,Lib.hid rfl,h6.plan _ A1 n1 c1 A2 n2 c2 hpl (hf1.mono h5.out.h3) (hf2.mono h5.out.h3)⟩
  clear hpl hf1 hf2 hr6 hg6 h6 HRP h5
  rw [zmk]
  go_wp2_with (first|((with_reducible refine zax ?_);refine wpList_store_mid rfl 34 _ _ rfl w3.heap.size 11 (pvs (q2).1 A1 n1 c1 A2 n2 c2).toArray rfl rfl ht6.out za2 (zdg _ _ _ _ _ _ _) ?_;generalize World.setCells _ _ _ _=w6 at *)|(go_at_call 83;fail))
  clear ht6
 case' inr =>
  rw [if_neg h9] at HS2
  rw [show (Mm.msOf 0 ns).has=false from decide_eq_false h9] at k10
  clear h9
  go_wp2_with (first|((with_reducible refine zax ?_);refine zbm rfl 37 _ _ rfl _ (mvs (Mm.msOf 0 ns) Lo.zero).toArray rfl rfl hi.out hl.out ho.out ?_;generalize World.alloc w3 _=w4 at *)|(go_at_call 83;fail))
  clear k0 f0 k10 ho hi hl
  generalize World.setCell _ _ _=w6 at *
  obtain ⟨x,l,hx0,h7⟩ : ∃x l,Hid (x={ Mm.msOf k ns with plan:=q2.1 })∧Hid (Ofs w w6 A n cap (q2).2.1 (q2).2.2 w2.heap.size w3.heap.size ns x l):=⟨_,_,Lib.hid rfl,by rw [HS2.out];exact h5⟩
  clear h5
 all_goals clear HPN HFN HS2 hk64
 all_goals
  have HR3:=Lib.hid (zqb (w.heap.size+1) A n cap B xs q2.2.1 q2.2.2 w6 h7.out.r (by omega) (by have:=h7.out.h1;have:=h7.out.h2;have:=h7.out.h3;omega) (HX.out.below (h7.out.bel.mono hB)) HNL.out hnc hcap HBY.out (HP2.out.bounds HNL.out hnc hcap))
  rw [show Mm.zco [] (q2.2.1,q2.2.2) (Wm.za1 xs)=q3 from HS3.out.symm] at HR3
  refine HR3.out.mono ?_
  rintro e w7 ⟨v,rfl,hown,hr,hg⟩
  obtain ⟨D3,d3,rfl,hc,hm,hrd⟩:=za4 hown
  have hh:=h7.out.read hr hg
  have hf:=(zji hown).mono h7.out.h3
  obtain ⟨kc,fc⟩:=hh.cell 23 rfl
  obtain ⟨x3,l3,hx3,h8⟩ : ∃x' l',Hid (x'={ x with id:=q3.1 })∧Hid (Ofs w (w7.setCell ⟨w3.heap.size,23,none⟩ (.slice D3 q3.1.length d3)) A n cap q3.2.1 q3.2.2 w2.heap.size w3.heap.size ns x' l'):=⟨_,_,Lib.hid rfl,hh.id q3.1 D3 _ d3 hrd rfl hc hm HF3.out hf⟩
  clear hown hr hg hh hrd HR3 h7 hc hm hf
  go_wp2_with (go_at_call 85;fail)
  clear kc fc
  generalize World.setCell _ _ _=w7b at *
  have HR4:=Lib.hid (zk6 (w.heap.size+1) A n cap B xs q3.2.1 q3.2.2 w7b h8.out.r (by omega) (by have:=h8.out.h1;have:=h8.out.h2;have:=h8.out.h3;omega) (HX.out.below (h8.out.bel.mono hB)) HNL.out hnc hcap HBY.out (HP3.out.bounds HNL.out hnc hcap))
  rw [show Mm.zco [] (q3.2.1,q3.2.2) (Wm.zbl xs)=q4 from HS4.out.symm] at HR4
  refine HR4.out.mono ?_
  rintro e w8 ⟨v,rfl,hown,hr,hg⟩
  obtain ⟨D4,d4,rfl,hc,hm,hrd⟩:=za4 hown
  have hh:=h8.out.read hr hg
  have hf:=(zji hown).mono h8.out.h3
  obtain ⟨kc,fc⟩:=hh.cell 24 rfl
  obtain ⟨x4,l4,hx4,h9⟩ : ∃x' l',Hid (x'={ x3 with se:=q4.1 })∧Hid (Ofs w (w8.setCell ⟨w3.heap.size,24,none⟩ (.slice D4 q4.1.length d4)) A n cap q4.2.1 q4.2.2 w2.heap.size w3.heap.size ns x' l'):=⟨_,_,Lib.hid rfl,hh.se q4.1 D4 _ d4 hrd rfl hc hm HF4.out hf⟩
  clear hown hr hg hh hrd HR4 h8 hc hm hf
  go_wp2_with (go_at_call 85;fail)
  clear kc fc
  generalize World.setCell _ _ _=w8b at *
  have HR5:=Lib.hid (zk6 (w.heap.size+1) A n cap B xs q4.2.1 q4.2.2 w8b h9.out.r (by omega) (by have:=h9.out.h1;have:=h9.out.h2;have:=h9.out.h3;omega) (HX.out.below (h9.out.bel.mono hB)) HNL.out hnc hcap HBY.out (HP4.out.bounds HNL.out hnc hcap))
  rw [show Mm.zco [] (q4.2.1,q4.2.2) (Wm.zbl xs)=q5 from HS5.out.symm] at HR5
  refine HR5.out.mono ?_
  rintro e w9 ⟨v,rfl,hown,hr,hg⟩
  obtain ⟨D5,d5,rfl,hc,hm,hrd⟩:=za4 hown
  have hh:=h9.out.read hr hg
  have hf:=(zji hown).mono h9.out.h3
  obtain ⟨kc,fc⟩:=hh.cell 25 rfl
  obtain ⟨x5,l5,hx5,h10⟩ : ∃x' l',Hid (x'={ x4 with pa:=q5.1 })∧Hid (Ofs w (w9.setCell ⟨w3.heap.size,25,none⟩ (.slice D5 q5.1.length d5)) A n cap q5.2.1 q5.2.2 w2.heap.size w3.heap.size ns x' l'):=⟨_,_,Lib.hid rfl,hh.pa q5.1 D5 _ d5 hrd rfl hc hm HF5.out hf⟩
  clear hown hr hg hh hrd HR5 h9 hc hm hf
  go_wp2_with (fail)
  clear kc fc
  generalize World.setCell _ _ _=w9b at *
  have hX:X=x5:=by rw [HG.out,hx5.out,hx4.out,hx3.out,hx0.out]
  rw [hX] at HNE HOK HBR
  clear hX HG hx0 hx3 hx4 hx5 HP2 HP3 HP4 HF3 HF4 HF5 HS3 HS4 HS5 HBY HX
  obtain ⟨p5,a5,e5⟩:=q5
  dsimp only at *
  have hz8:w9b.heap.size≤w9b.heap.size:=Nat.le_refl _
  have hg9:w.heap.size+1 < w9b.heap.size:=by have:=h10.out.h1;have:=h10.out.h2;have:=h10.out.h3;omega
  have HRD:=Lib.hid (fun (W:World) (h:Below w9b.heap.size w9b W)=>h10.out.r.below h hg9)
  have HN7:=Lib.hid (fun (W:World) (h:Below w9b.heap.size w9b W)=>zdf h10.out.n7 h (by have:=h10.out.h2;have:=h10.out.h3;omega))
  have HM8:=Lib.hid (fun (W:World) (h:Below w9b.heap.size w9b W)=>zdf h10.out.m8 h h10.out.h3)
  have HMS:=Lib.hid (fun (W:World) (h:Below w9b.heap.size w9b W)=>h10.out.ms.below h (Nat.le_refl _))
  have HT4:=Lib.hid (fun (W:World) (h:Below w9b.heap.size w9b W)=>za9 h10.out.t4 h (by omega))
  have HW:=Lib.hid (fun (W:World) (h:Below w9b.heap.size w9b W)=>h10.out.bel.trans (h.mono (by omega)))
  have HSB:=Lib.hid (fun (W:World) (cs:List Value) (h:Below w9b.heap.size w9b W)=>below_grown (HW.out W h) (za6 w.heap.size cs 0 W) (Nat.le_refl _) (HW.out W h).size)
  have HFR:=Lib.hid h10.out.fr
  have hb8:=Lib.hid (show w.heap.size < w3.heap.size+1 from by have:=h10.out.h1;have:=h10.out.h2;omega)
  have HXO:=Lib.hid h10.out.ms.ok
  have HNX:=Lib.hid (fun W=>zlf x5 l5 W h10.out.ms.ok)
  have HRI:=Lib.hid (fun (W:World) (h:Below w9b.heap.size w9b W) (ht:Tab W)=>zg3 x5 l5 w9b.heap.size W (HMS.out W h) h.size ht)
  have hEN:=Lib.hid (fun W=>zmy x5.nums ns rfl HNLEN.out W)
  have hi8:Hid ((Tryz.prog.info? 37).map (·.size)=some (mvs x5 l5).length):=zbn
  have hi9:Hid ((Tryz.prog.info? 37).map (·.size)=some (mvs x5 l5).toArray.size):=zbn
  have ho9:=Lib.hid (zd6 x5 l5)
  have ht9:Hid (∀(W:World),Below w9b.heap.size w9b W→W.there w.heap.size 0 (mvs x5 l5).toArray.size):=HT4.out
  have hs7:Hid ((Tryz.prog.info? 126).map (·.size)=some (i64s ns).length):=by rw [zed,HNLEN.out];exact Lib.hid zbi
  have hgd:=zmz
  clear hz8 h10 HNLEN
  unfold mv at HNX HRI
  obtain ⟨L,hL⟩ : ∃L,L=mvs x5 l5:=⟨_,rfl⟩
  have HL:=Lib.hid hL
  rw [←hL] at HNX HRI HM8 hi8 hi9 ho9 ht9
  clear hL
 ·go_wp2_with fail
  refine zc6 (fun W=>Below w9b.heap.size w9b W) (by kernel_rfl) ?_
  have hC:Below w9b.heap.size w9b w9b.drew:=(Below.refl _ _).drew
  refine zaf (i:=0) (v := ?v0_195) (a' := ?a0_195) rfl (by kernel_rfl) (by kernel_rfl) (by kernel_rfl) (fun _ _ _ h=>h) hC ?w0_195 ?y0_195 ?f0_195 ?r0_195
  case w0_195=>kernel_rfl
  case y0_195=>(intro w hC;go_simp;try with_reducible rfl)
  case f0_195=>(go_simp;try with_reducible rfl)
  refine zaf (i:=1) (v := ?v1_196) (a' := ?a1_196) rfl (by kernel_rfl) (by kernel_rfl) (by kernel_rfl) (fun _ _ _ h=>h) hC ?w1_196 ?y1_196 ?f1_196 ?r1_196
  case w1_196=>kernel_rfl
  case y1_196=>(intro w hC;go_simp;try with_reducible rfl)
  case f1_196=>(go_simp;try with_reducible rfl)
  refine zaf (i:=2) (v := ?v2_197) (a' := ?a2_197) rfl (by kernel_rfl) (by kernel_rfl) (by kernel_rfl) (fun _ _ _ h=>h) hC ?w2_197 ?y2_197 ?f2_197 ?r2_197
  case w2_197=>kernel_rfl
  case y2_197=>(intro w hC;go_simp;try with_reducible rfl)
  case f2_197=>(go_simp;try with_reducible rfl)
  refine zaf (i:=3) (v := ?v3_198) (a' := ?a3_198) rfl (by kernel_rfl) (by kernel_rfl) (by kernel_rfl) (fun _ _ _ h=>h) hC ?w3_198 ?y3_198 ?f3_198 ?r3_198
  case w3_198=>kernel_rfl
  case y3_198=>(intro w hC;have h4:=(HRD.out w hC).c2;go_simp;try with_reducible rfl)
  case f3_198=>(go_simp;try with_reducible rfl)
  by_cases he5:e5=0
  case neg =>
   have HE:=Lib.hid (HB5.out he5)
   have hq:(e5 != 0)=true:=by rw [bne_iff_ne];exact he5
   clear he5
   refine zaf (i:=4) (v := ?v4_199) (a' := ?a4_199) rfl (by kernel_rfl) (by kernel_rfl) (by kernel_rfl) (fun _ _ _ h=>h) hC ?w4_199 ?y4_199 ?f4_199 ?r4_199
   case w4_199=>kernel_rfl
   case y4_199=>(intro w hC;go_simp;try with_reducible rfl)
   case f4_199=>(go_simp;try with_reducible rfl)
   refine zaf (i:=5) (v := ?v5_200) (a' := ?a5_200) rfl (by kernel_rfl) (by kernel_rfl) (by kernel_rfl) (fun _ _ _ h=>h) hC ?w5_200 ?y5_200 ?f5_200 ?r5_200
   case w5_200=>kernel_rfl
   case y5_200=>(intro w hC;go_simp;try with_reducible rfl)
   case f5_200=>(go_simp;try with_reducible rfl)
   refine zas (i:=6) (a' := ?a6_201) rfl (by kernel_rfl) (by kernel_rfl) (by kernel_rfl) (fun _ _ _ h=>h) hC (by kernel_rfl) ?f6_201 ?r6_201
   case f6_201=>(go_simp;try with_reducible rfl)
   refine zas (i:=7) (a' := ?a7_202) rfl (by kernel_rfl) (by kernel_rfl) (by kernel_rfl) (fun _ _ _ h=>h) hC (by kernel_rfl) ?f7_202 ?r7_202
   case f7_202=>(go_simp;try with_reducible rfl)
   refine zas (i:=8) (a' := ?a8_203) rfl (by kernel_rfl) (by kernel_rfl) (by kernel_rfl) (fun _ _ _ h=>h) hC (by kernel_rfl) ?f8_203 ?r8_203
   case f8_203=>(go_simp;try with_reducible rfl)
   refine zas (i:=9) (a' := ?a9_204) rfl (by kernel_rfl) (by kernel_rfl) (by kernel_rfl) (fun _ _ _ h=>h) hC (by kernel_rfl) ?f9_204 ?r9_204
   case f9_204=>(go_simp;try with_reducible rfl)
   refine zas (i:=10) (a' := ?a10_205) rfl (by kernel_rfl) (by kernel_rfl) (by kernel_rfl) (fun _ _ _ h=>h) hC (by kernel_rfl) ?f10_205 ?r10_205
   case f10_205=>(go_simp;try with_reducible rfl)
   refine zas (i:=11) (a' := ?a11_206) rfl (by kernel_rfl) (by kernel_rfl) (by kernel_rfl) (fun _ _ _ h=>h) hC (by kernel_rfl) ?f11_206 ?r11_206
   case f11_206=>(go_simp;try with_reducible rfl)
   refine zaf (i:=12) (v := ?v12_207) (a' := ?a12_207) rfl (by kernel_rfl) (by kernel_rfl) (by kernel_rfl) (fun _ _ _ h=>h) hC ?w12_207 ?y12_207 ?f12_207 ?r12_207
   case w12_207=>kernel_rfl
   case y12_207=>(intro w hC;go_simp;try with_reducible rfl)
   case f12_207=>(go_simp;try with_reducible rfl)
   refine zaf (i:=13) (v := ?v13_208) (a' := ?a13_208) rfl (by kernel_rfl) (by kernel_rfl) (by kernel_rfl) (fun _ _ _ h=>h) hC ?w13_208 ?y13_208 ?f13_208 ?r13_208
   case w13_208=>kernel_rfl
   case y13_208=>(intro w hC;go_simp;try with_reducible rfl)
   case f13_208=>(go_simp;try with_reducible rfl)
   refine zas (i:=14) (a' := ?a14_209) rfl (by kernel_rfl) (by kernel_rfl) (by kernel_rfl) (fun _ _ _ h=>h) hC (by kernel_rfl) ?f14_209 ?r14_209
   case f14_209=>(go_simp;try with_reducible rfl)
   refine zas (i:=15) (a' := ?a15_210) rfl (by kernel_rfl) (by kernel_rfl) (by kernel_rfl) (fun _ _ _ h=>h) hC (by kernel_rfl) ?f15_210 ?r15_210
   case f15_210=>(go_simp;try with_reducible rfl)
   refine zas (i:=16) (a' := ?a16_211) rfl (by kernel_rfl) (by kernel_rfl) (by kernel_rfl) (fun _ _ _ h=>h) hC (by kernel_rfl) ?f16_211 ?r16_211
   case f16_211=>(go_simp;try with_reducible rfl)
   refine zas (i:=17) (a' := ?a17_212) rfl (by kernel_rfl) (by kernel_rfl) (by kernel_rfl) (fun _ _ _ h=>h) hC (by kernel_rfl) ?f17_212 ?r17_212
   case f17_212=>(go_simp;try with_reducible rfl)
   refine zaf (i:=18) (v := ?v18_213) (a' := ?a18_213) rfl (by kernel_rfl) (by kernel_rfl) (by kernel_rfl) (fun _ _ _ h=>h) hC ?w18_213 ?y18_213 ?f18_213 ?r18_213
   case w18_213=>kernel_rfl
   case y18_213=>(intro w hC;go_simp;try with_reducible rfl)
   case f18_213=>(go_simp;try with_reducible rfl)
   refine zaf (i:=19) (v := ?v19_214) (a' := ?a19_214) rfl (by kernel_rfl) (by kernel_rfl) (by kernel_rfl) (fun _ _ _ h=>h) hC ?w19_214 ?y19_214 ?f19_214 ?r19_214
   case w19_214=>kernel_rfl
   case y19_214=>(intro w hC;go_simp;try with_reducible rfl)
   case f19_214=>(go_simp;try with_reducible rfl)
   refine zas (i:=20) (a' := ?a20_215) rfl (by kernel_rfl) (by kernel_rfl) (by kernel_rfl) (fun _ _ _ h=>h) hC (by kernel_rfl) ?f20_215 ?r20_215
   case f20_215=>(go_simp;try with_reducible rfl)
   refine zas (i:=21) (a' := ?a21_216) rfl (by kernel_rfl) (by kernel_rfl) (by kernel_rfl) (fun _ _ _ h=>h) hC (by kernel_rfl) ?f21_216 ?r21_216
   case f21_216=>(go_simp;try with_reducible rfl)
   refine zas (i:=22) (a' := ?a22_217) rfl (by kernel_rfl) (by kernel_rfl) (by kernel_rfl) (fun _ _ _ h=>h) hC (by kernel_rfl) ?f22_217 ?r22_217
   case f22_217=>(go_simp;try with_reducible rfl)
   refine zaf (i:=23) (v := ?v23_218) (a' := ?a23_218) rfl (by kernel_rfl) (by kernel_rfl) (by kernel_rfl) (fun _ _ _ h=>h) hC ?w23_218 ?y23_218 ?f23_218 ?r23_218
   case w23_218=>kernel_rfl
   case y23_218=>(intro w hC;go_simp;try with_reducible rfl)
   case f23_218=>(go_simp;try with_reducible rfl)
   refine zbc (by kernel_rfl) ?_
   clear hq
   go_wp2_with (first|((with_reducible refine zax ?_);refine wpList_build rfl 37 _ rfl #[] rfl (mvs Mm.zero Lo.zero).toArray zcz ?_)|((with_reducible refine zax ?_);refine wpList_store_mid rfl 37 _ _ rfl w.heap.size 0 (mvs Mm.zero Lo.zero).toArray rfl rfl (HT4.out _ hC) zbn (zd6 _ _) ?_))
   refine bodyPost_ret (zbd rfl _ _ w.heap.size (mvs Mm.zero Lo.zero) _ rfl (World.rangeAt_setCells_same _ _ _ _ (HT4.out _ hC)) Tryz.underlying37 rfl zbn) rfl ?_
   rw [HE.out]
   exact ⟨Lo.zero,rfl,MsAt.zero _ _,LoFr.zero _,HSB.out _ _ hC⟩
  subst he5
  refine zaf (i:=4) (v := ?v4_219) (a' := ?a4_219) rfl (by kernel_rfl) (by kernel_rfl) (by kernel_rfl) (fun _ _ _ h=>h) hC ?w4_219 ?y4_219 ?f4_219 ?r4_219
  case w4_219=>kernel_rfl
  case y4_219=>(intro w hC;go_simp;try with_reducible rfl)
  case f4_219=>(go_simp;try with_reducible rfl)
  refine zaf (i:=5) (v := ?v5_220) (a' := ?a5_220) rfl (by kernel_rfl) (by kernel_rfl) (by kernel_rfl) (fun _ _ _ h=>h) hC ?w5_220 ?y5_220 ?f5_220 ?r5_220
  case w5_220=>kernel_rfl
  case y5_220=>(intro w hC;go_simp;try with_reducible rfl)
  case f5_220=>(go_simp;try with_reducible rfl)
  refine zaf (i:=6) (v := ?v6_221) (a' := ?a6_221) rfl (by kernel_rfl) (by kernel_rfl) (by kernel_rfl) (fun _ _ _ h=>h) hC ?w6_221 ?y6_221 ?f6_221 ?r6_221
  case w6_221=>kernel_rfl
  case y6_221=>(intro w hC;go_simp;try with_reducible rfl)
  case f6_221=>(go_simp;try with_reducible rfl)
  refine zaf (i:=7) (v := ?v7_222) (a' := ?a7_222) rfl (by kernel_rfl) (by kernel_rfl) (by kernel_rfl) (fun _ _ _ h=>h) hC ?w7_222 ?y7_222 ?f7_222 ?r7_222
  case w7_222=>kernel_rfl
  case y7_222=>(intro w hC;go_simp;try with_reducible rfl)
  case f7_222=>(go_simp;try with_reducible rfl)
  refine zaf (i:=8) (v := ?v8_223) (a' := ?a8_223) rfl (by kernel_rfl) (by kernel_rfl) (by kernel_rfl) (fun _ _ _ h=>h) hC ?w8_223 ?y8_223 ?f8_223 ?r8_223
  case w8_223=>kernel_rfl
  case y8_223=>(intro w hC;go_simp;try with_reducible rfl)
  case f8_223=>(go_simp;try with_reducible rfl)
  refine zaf (i:=9) (v := ?v9_224) (a' := ?a9_224) rfl (by kernel_rfl) (by kernel_rfl) (by kernel_rfl) (fun _ _ _ h=>h) hC ?w9_224 ?y9_224 ?f9_224 ?r9_224
  case w9_224=>kernel_rfl
  case y9_224=>(intro W hW;exact by refine zbw 122 (.tmp 42) ?_ (w.heap.size+1) ?_ [.slice A n cap,.int .i64 a5] _ (zer (ys:=[.int .i64 0]) (HRD.out _ hW).rng) Tryz.underlying122 rfl zn4<;>rfl)
  case f9_224=>(go_simp;try with_reducible rfl)
  refine za5 (i:=10) rfl (by kernel_rfl) (by kernel_rfl) (fun K hK => ?_)
  go_simp
  refine (zl3 A n cap a5 _).mono ?_
  rintro e u3 ⟨rfl,hb⟩
  have hC3:Below w9b.heap.size w9b u3:=hC.trans (hb.mono hC.size)
  refine hK _ _ ⟨hC3,?_⟩
  clear hK K hb
  by_cases ha5:a5=(n:Int)
  case neg =>
   have HE:=Lib.hid (HBL.out (by rw [HNL.out];exact ha5))
   have hq:(a5 == (n:Int))=false:=by rw [beq_eq_false_iff_ne];exact ha5
   clear ha5
   refine zaf (i:=11) (v := ?v11_225) (a' := ?a11_225) rfl (by kernel_rfl) (by kernel_rfl) (by kernel_rfl) (fun _ _ _ h=>h) hC3 ?w11_225 ?y11_225 ?f11_225 ?r11_225
   case w11_225=>kernel_rfl
   case y11_225=>(intro w hC;go_simp;try with_reducible rfl)
   case f11_225=>(go_simp;try with_reducible rfl)
   refine zaf (i:=12) (v := ?v12_226) (a' := ?a12_226) rfl (by kernel_rfl) (by kernel_rfl) (by kernel_rfl) (fun _ _ _ h=>h) hC3 ?w12_226 ?y12_226 ?f12_226 ?r12_226
   case w12_226=>kernel_rfl
   case y12_226=>(intro w hC;go_simp;try with_reducible rfl)
   case f12_226=>(go_simp;try with_reducible rfl)
   refine zaf (i:=13) (v := ?v13_227) (a' := ?a13_227) rfl (by kernel_rfl) (by kernel_rfl) (by kernel_rfl) (fun _ _ _ h=>h) hC3 ?w13_227 ?y13_227 ?f13_227 ?r13_227
   case w13_227=>kernel_rfl
   case y13_227=>(intro w hC;go_simp;try with_reducible rfl)
   case f13_227=>(go_simp;try with_reducible rfl)
   refine zas (i:=14) (a' := ?a14_228) rfl (by kernel_rfl) (by kernel_rfl) (by kernel_rfl) (fun _ _ _ h=>h) hC3 (by kernel_rfl) ?f14_228 ?r14_228
   case f14_228=>(go_simp;try with_reducible rfl)
   refine zas (i:=15) (a' := ?a15_229) rfl (by kernel_rfl) (by kernel_rfl) (by kernel_rfl) (fun _ _ _ h=>h) hC3 (by kernel_rfl) ?f15_229 ?r15_229
   case f15_229=>(go_simp;try with_reducible rfl)
   refine zas (i:=16) (a' := ?a16_230) rfl (by kernel_rfl) (by kernel_rfl) (by kernel_rfl) (fun _ _ _ h=>h) hC3 (by kernel_rfl) ?f16_230 ?r16_230
   case f16_230=>(go_simp;try with_reducible rfl)
   refine zas (i:=17) (a' := ?a17_231) rfl (by kernel_rfl) (by kernel_rfl) (by kernel_rfl) (fun _ _ _ h=>h) hC3 (by kernel_rfl) ?f17_231 ?r17_231
   case f17_231=>(go_simp;try with_reducible rfl)
   refine zaf (i:=18) (v := ?v18_232) (a' := ?a18_232) rfl (by kernel_rfl) (by kernel_rfl) (by kernel_rfl) (fun _ _ _ h=>h) hC3 ?w18_232 ?y18_232 ?f18_232 ?r18_232
   case w18_232=>kernel_rfl
   case y18_232=>(intro w hC;go_simp;try with_reducible rfl)
   case f18_232=>(go_simp;try with_reducible rfl)
   refine zaf (i:=19) (v := ?v19_233) (a' := ?a19_233) rfl (by kernel_rfl) (by kernel_rfl) (by kernel_rfl) (fun _ _ _ h=>h) hC3 ?w19_233 ?y19_233 ?f19_233 ?r19_233
   case w19_233=>kernel_rfl
   case y19_233=>(intro w hC;go_simp;try with_reducible rfl)
   case f19_233=>(go_simp;try with_reducible rfl)
   refine zas (i:=20) (a' := ?a20_234) rfl (by kernel_rfl) (by kernel_rfl) (by kernel_rfl) (fun _ _ _ h=>h) hC3 (by kernel_rfl) ?f20_234 ?r20_234
   case f20_234=>(go_simp;try with_reducible rfl)
   refine zas (i:=21) (a' := ?a21_235) rfl (by kernel_rfl) (by kernel_rfl) (by kernel_rfl) (fun _ _ _ h=>h) hC3 (by kernel_rfl) ?f21_235 ?r21_235
   case f21_235=>(go_simp;try with_reducible rfl)
   refine zas (i:=22) (a' := ?a22_236) rfl (by kernel_rfl) (by kernel_rfl) (by kernel_rfl) (fun _ _ _ h=>h) hC3 (by kernel_rfl) ?f22_236 ?r22_236
   case f22_236=>(go_simp;try with_reducible rfl)
   refine zaf (i:=23) (v := ?v23_237) (a' := ?a23_237) rfl (by kernel_rfl) (by kernel_rfl) (by kernel_rfl) (fun _ _ _ h=>h) hC3 ?w23_237 ?y23_237 ?f23_237 ?r23_237
   case w23_237=>kernel_rfl
   case y23_237=>(intro w hC;go_simp;try with_reducible rfl)
   case f23_237=>(go_simp;try with_reducible rfl)
   refine zbc (by kernel_rfl) ?_
   clear hq
   go_wp2_with (first|((with_reducible refine zax ?_);refine wpList_build rfl 37 _ rfl #[] rfl (mvs Mm.zero Lo.zero).toArray zcz ?_)|((with_reducible refine zax ?_);refine wpList_store_mid rfl 37 _ _ rfl w.heap.size 0 (mvs Mm.zero Lo.zero).toArray rfl rfl (HT4.out _ hC3) zbn (zd6 _ _) ?_))
   refine bodyPost_ret (zbd rfl _ _ w.heap.size (mvs Mm.zero Lo.zero) _ rfl (World.rangeAt_setCells_same _ _ _ _ (HT4.out _ hC3)) Tryz.underlying37 rfl zbn) rfl ?_
   rw [HE.out]
   exact ⟨Lo.zero,rfl,MsAt.zero _ _,LoFr.zero _,HSB.out _ _ hC3⟩
  have HA5:=Lib.hid ha5
  have hq:(a5 == (n:Int))=true:=by rw [beq_iff_eq];exact ha5
  clear ha5
  refine zaf (i:=11) (v := ?v11_238) (a' := ?a11_238) rfl (by kernel_rfl) (by kernel_rfl) (by kernel_rfl) (fun _ _ _ h=>h) hC3 ?w11_238 ?y11_238 ?f11_238 ?r11_238
  case w11_238=>kernel_rfl
  case y11_238=>(intro w hC;go_simp;try with_reducible rfl)
  case f11_238=>(go_simp;try with_reducible rfl)
  refine zaf (i:=12) (v := ?v12_239) (a' := ?a12_239) rfl (by kernel_rfl) (by kernel_rfl) (by kernel_rfl) (fun _ _ _ h=>h) hC3 ?w12_239 ?y12_239 ?f12_239 ?r12_239
  case w12_239=>kernel_rfl
  case y12_239=>(intro w hC;go_simp;try with_reducible rfl)
  case f12_239=>(go_simp;try with_reducible rfl)
  refine zaf (i:=13) (v := ?v13_240) (a' := ?a13_240) rfl (by kernel_rfl) (by kernel_rfl) (by kernel_rfl) (fun _ _ _ h=>h) hC3 ?w13_240 ?y13_240 ?f13_240 ?r13_240
  case w13_240=>kernel_rfl
  case y13_240=>(intro w hC;go_simp;try with_reducible rfl)
  case f13_240=>(go_simp;try with_reducible rfl)
  clear hq
  refine zaf (i:=14) (v := ?v14_241) (a' := ?a14_241) rfl (by kernel_rfl) (by kernel_rfl) (by kernel_rfl) (fun _ _ _ h=>h) hC3 ?w14_241 ?y14_241 ?f14_241 ?r14_241
  case w14_241=>kernel_rfl
  case y14_241=>(intro W hW;exact by refine zbw 37 (.tmp 8) ?_ w3.heap.size ?_ L _ (HM8.out _ hW) Tryz.underlying37 rfl hi8.out<;>rfl)
  case f14_241=>(go_simp;try with_reducible rfl)
  refine zaf (i:=16) (v := ?v16_242) (a' := ?a16_242) rfl (by kernel_rfl) (by kernel_rfl) (by kernel_rfl) (fun _ _ _ h=>h) hC3 ?w16_242 ?y16_242 ?f16_242 ?r16_242
  case w16_242=>kernel_rfl
  case y16_242=>(intro W hW;exact by refine zbw 126 (.tmp 7) ?_ w2.heap.size ?_ (i64s ns) _ (HN7.out _ hW) Tryz.underlying126 rfl hs7.out<;>rfl)
  case f16_242=>(go_simp;try with_reducible rfl)
  refine za5 (i:=15) rfl (by kernel_rfl) (by kernel_rfl) (fun K hK => ?_)
  go_simp
  refine (HNX.out _).mono ?_
  rintro e u4 ⟨rfl,hb⟩
  have hC4:Below w9b.heap.size w9b u4:=hC3.trans (hb.mono hC3.size)
  refine hK _ _ ⟨hC4,?_⟩
  clear hK K hb
  by_cases en:x5.nums=ns
  case neg =>
   have hbe:(x5.nums == ns)=false:=by rw [beq_eq_false_iff_ne];exact en
   have HE:=Lib.hid (HNE.out en)
   rw [hbe] at hEN
   clear en hbe
   refine zaf (i:=17) (v := ?v17_243) (a' := ?a17_243) rfl (by kernel_rfl) (by kernel_rfl) (by kernel_rfl) (fun _ _ _ h=>h) hC4 ?w17_243 ?y17_243 ?f17_243 ?r17_243
   case w17_243=>kernel_rfl
   case y17_243=>(intro w hC;have h4:=hEN.out w;go_simp;try with_reducible rfl)
   case f17_243=>(go_simp;try with_reducible rfl)
   refine zaf (i:=18) (v := ?v18_244) (a' := ?a18_244) rfl (by kernel_rfl) (by kernel_rfl) (by kernel_rfl) (fun _ _ _ h=>h) hC4 ?w18_244 ?y18_244 ?f18_244 ?r18_244
   case w18_244=>kernel_rfl
   case y18_244=>(intro w hC;go_simp;try with_reducible rfl)
   case f18_244=>(go_simp;try with_reducible rfl)
   refine zaf (i:=19) (v := ?v19_245) (a' := ?a19_245) rfl (by kernel_rfl) (by kernel_rfl) (by kernel_rfl) (fun _ _ _ h=>h) hC4 ?w19_245 ?y19_245 ?f19_245 ?r19_245
   case w19_245=>kernel_rfl
   case y19_245=>(intro w hC;go_simp;try with_reducible rfl)
   case f19_245=>(go_simp;try with_reducible rfl)
   refine zas (i:=20) (a' := ?a20_246) rfl (by kernel_rfl) (by kernel_rfl) (by kernel_rfl) (fun _ _ _ h=>h) hC4 (by kernel_rfl) ?f20_246 ?r20_246
   case f20_246=>(go_simp;try with_reducible rfl)
   refine zas (i:=21) (a' := ?a21_247) rfl (by kernel_rfl) (by kernel_rfl) (by kernel_rfl) (fun _ _ _ h=>h) hC4 (by kernel_rfl) ?f21_247 ?r21_247
   case f21_247=>(go_simp;try with_reducible rfl)
   refine zas (i:=22) (a' := ?a22_248) rfl (by kernel_rfl) (by kernel_rfl) (by kernel_rfl) (fun _ _ _ h=>h) hC4 (by kernel_rfl) ?f22_248 ?r22_248
   case f22_248=>(go_simp;try with_reducible rfl)
   refine zaf (i:=23) (v := ?v23_249) (a' := ?a23_249) rfl (by kernel_rfl) (by kernel_rfl) (by kernel_rfl) (fun _ _ _ h=>h) hC4 ?w23_249 ?y23_249 ?f23_249 ?r23_249
   case w23_249=>kernel_rfl
   case y23_249=>(intro w hC;go_simp;try with_reducible rfl)
   case f23_249=>(go_simp;try with_reducible rfl)
   refine zbc (by kernel_rfl) ?_
   go_wp2_with (first|((with_reducible refine zax ?_);refine wpList_build rfl 37 _ rfl #[] rfl (mvs Mm.zero Lo.zero).toArray zcz ?_)|((with_reducible refine zax ?_);refine wpList_store_mid rfl 37 _ _ rfl w.heap.size 0 (mvs Mm.zero Lo.zero).toArray rfl rfl (HT4.out _ hC4) zbn (zd6 _ _) ?_))
   refine bodyPost_ret (zbd rfl _ _ w.heap.size (mvs Mm.zero Lo.zero) _ rfl (World.rangeAt_setCells_same _ _ _ _ (HT4.out _ hC4)) Tryz.underlying37 rfl zbn) rfl ?_
   rw [HE.out]
   exact ⟨Lo.zero,rfl,MsAt.zero _ _,LoFr.zero _,HSB.out _ _ hC4⟩
  have hbe:(x5.nums == ns)=true:=by rw [beq_iff_eq];exact en
  rw [hbe] at hEN
  have EN:=Lib.hid en
  clear en hbe
  refine zaf (i:=17) (v := ?v17_250) (a' := ?a17_250) rfl (by kernel_rfl) (by kernel_rfl) (by kernel_rfl) (fun _ _ _ h=>h) hC4 ?w17_250 ?y17_250 ?f17_250 ?r17_250
  case w17_250=>kernel_rfl
  case y17_250=>(intro w hC;have h4:=hEN.out w;go_simp;try with_reducible rfl)
  case f17_250=>(go_simp;try with_reducible rfl)
  refine zaf (i:=18) (v := ?v18_251) (a' := ?a18_251) rfl (by kernel_rfl) (by kernel_rfl) (by kernel_rfl) (fun _ _ _ h=>h) hC4 ?w18_251 ?y18_251 ?f18_251 ?r18_251
  case w18_251=>kernel_rfl
  case y18_251=>(intro w hC;go_simp;try with_reducible rfl)
  case f18_251=>(go_simp;try with_reducible rfl)
  refine zaf (i:=19) (v := ?v19_252) (a' := ?a19_252) rfl (by kernel_rfl) (by kernel_rfl) (by kernel_rfl) (fun _ _ _ h=>h) hC4 ?w19_252 ?y19_252 ?f19_252 ?r19_252
  case w19_252=>kernel_rfl
  case y19_252=>(intro w hC;go_simp;try with_reducible rfl)
  case f19_252=>(go_simp;try with_reducible rfl)
  refine zaf (i:=20) (v := ?v20_253) (a' := ?a20_253) rfl (by kernel_rfl) (by kernel_rfl) (by kernel_rfl) (fun _ _ _ h=>h) hC4 ?w20_253 ?y20_253 ?f20_253 ?r20_253
  case w20_253=>kernel_rfl
  case y20_253=>(intro W hW;exact by refine zbw 37 (.tmp 8) ?_ w3.heap.size ?_ L _ (HM8.out _ hW) Tryz.underlying37 rfl hi8.out<;>rfl)
  case f20_253=>(go_simp;try with_reducible rfl)
  refine za5 (i:=21) rfl (by kernel_rfl) (by kernel_rfl) (fun K hK => ?_)
  go_simp
  refine (HRI.out _ hC4 (HT.out.below (HW.out _ hC4) (Nat.le_refl _))).mono ?_
  rintro e u5 ⟨rfl,hb⟩
  have hC5:Below w9b.heap.size w9b u5:=hC4.trans (hb.mono hC4.size)
  refine hK _ _ ⟨hC5,?_⟩
  clear hK K hb
  cases hrr:x5.right
  case false =>
   have HE:=Lib.hid (HBR.out hrr)
   clear hrr
   refine zaf (i:=22) (v := ?v22_254) (a' := ?a22_254) rfl (by kernel_rfl) (by kernel_rfl) (by kernel_rfl) (fun _ _ _ h=>h) hC5 ?w22_254 ?y22_254 ?f22_254 ?r22_254
   case w22_254=>kernel_rfl
   case y22_254=>(intro w hC;go_simp;try with_reducible rfl)
   case f22_254=>(go_simp;try with_reducible rfl)
   refine zaf (i:=23) (v := ?v23_255) (a' := ?a23_255) rfl (by kernel_rfl) (by kernel_rfl) (by kernel_rfl) (fun _ _ _ h=>h) hC5 ?w23_255 ?y23_255 ?f23_255 ?r23_255
   case w23_255=>kernel_rfl
   case y23_255=>(intro w hC;go_simp;try with_reducible rfl)
   case f23_255=>(go_simp;try with_reducible rfl)
   refine zbc (by kernel_rfl) ?_
   go_wp2_with (first|((with_reducible refine zax ?_);refine wpList_build rfl 37 _ rfl #[] rfl (mvs Mm.zero Lo.zero).toArray zcz ?_)|((with_reducible refine zax ?_);refine wpList_store_mid rfl 37 _ _ rfl w.heap.size 0 (mvs Mm.zero Lo.zero).toArray rfl rfl (HT4.out _ hC5) zbn (zd6 _ _) ?_))
   refine bodyPost_ret (zbd rfl _ _ w.heap.size (mvs Mm.zero Lo.zero) _ rfl (World.rangeAt_setCells_same _ _ _ _ (HT4.out _ hC5)) Tryz.underlying37 rfl zbn) rfl ?_
   rw [HE.out]
   exact ⟨Lo.zero,rfl,MsAt.zero _ _,LoFr.zero _,HSB.out _ _ hC5⟩
  have HE:=Lib.hid (HOK.out rfl (by rw [HNL.out];exact HA5.out) EN.out hrr)
  clear hrr
  refine zaf (i:=22) (v := ?v22_256) (a' := ?a22_256) rfl (by kernel_rfl) (by kernel_rfl) (by kernel_rfl) (fun _ _ _ h=>h) hC5 ?w22_256 ?y22_256 ?f22_256 ?r22_256
  case w22_256=>kernel_rfl
  case y22_256=>(intro w hC;go_simp;try with_reducible rfl)
  case f22_256=>(go_simp;try with_reducible rfl)
  refine zaf (i:=23) (v := ?v23_257) (a' := ?a23_257) rfl (by kernel_rfl) (by kernel_rfl) (by kernel_rfl) (fun _ _ _ h=>h) hC5 ?w23_257 ?y23_257 ?f23_257 ?r23_257
  case w23_257=>kernel_rfl
  case y23_257=>(intro w hC;go_simp;try with_reducible rfl)
  case f23_257=>(go_simp;try with_reducible rfl)
  refine zbc (by kernel_rfl) ?_
  have HM:=Lib.hid (HM8.out _ hC5)
  have HT5:=Lib.hid (ht9.out _ hC5)
  go_wp2_with (first|((with_reducible refine zax ?_);refine wpList_load_mid rfl 37 _ rfl w3.heap.size 0 rfl L _ HM.out Tryz.underlying37 rfl hi8.out ?_)|((with_reducible refine zax ?_);refine wpList_store_mid rfl 37 _ _ rfl w.heap.size 0 L.toArray rfl rfl HT5.out hi9.out ho9.out ?_))
  refine bodyPost_ret (zbd rfl _ _ w.heap.size L _ rfl (World.rangeAt_setCells_same _ _ _ _ HT5.out) Tryz.underlying37 rfl hi8.out) rfl ?_
  rw [HE.out,HL.out]
  have hgs:=za6 w.heap.size (mvs x5 l5) 0 u5
  exact ⟨l5,rfl,(((HMS.out _ hC5).more hC5.size).other HFR.out hgs hb8.out (Nat.le_refl _)).more hgs.size,HFR.out.mono (Nat.le_of_lt hb8.out),HSB.out _ _ hC5⟩
 ·go_wp2_with fail
  refine zc6 (fun W=>Below w9b.heap.size w9b W) (by kernel_rfl) ?_
  have hC:Below w9b.heap.size w9b w9b.drew:=(Below.refl _ _).drew
  refine zaf (i:=0) (v := ?v0_258) (a' := ?a0_258) rfl (by kernel_rfl) (by kernel_rfl) (by kernel_rfl) (fun _ _ _ h=>h) hC ?w0_258 ?y0_258 ?f0_258 ?r0_258
  case w0_258=>kernel_rfl
  case y0_258=>(intro w hC;go_simp;try with_reducible rfl)
  case f0_258=>(go_simp;try with_reducible rfl)
  refine zaf (i:=1) (v := ?v1_259) (a' := ?a1_259) rfl (by kernel_rfl) (by kernel_rfl) (by kernel_rfl) (fun _ _ _ h=>h) hC ?w1_259 ?y1_259 ?f1_259 ?r1_259
  case w1_259=>kernel_rfl
  case y1_259=>(intro w hC;go_simp;try with_reducible rfl)
  case f1_259=>(go_simp;try with_reducible rfl)
  refine zaf (i:=2) (v := ?v2_260) (a' := ?a2_260) rfl (by kernel_rfl) (by kernel_rfl) (by kernel_rfl) (fun _ _ _ h=>h) hC ?w2_260 ?y2_260 ?f2_260 ?r2_260
  case w2_260=>kernel_rfl
  case y2_260=>(intro w hC;go_simp;try with_reducible rfl)
  case f2_260=>(go_simp;try with_reducible rfl)
  refine zaf (i:=3) (v := ?v3_261) (a' := ?a3_261) rfl (by kernel_rfl) (by kernel_rfl) (by kernel_rfl) (fun _ _ _ h=>h) hC ?w3_261 ?y3_261 ?f3_261 ?r3_261
  case w3_261=>kernel_rfl
  case y3_261=>(intro w hC;have h4:=(HRD.out w hC).c2;go_simp;try with_reducible rfl)
  case f3_261=>(go_simp;try with_reducible rfl)
  by_cases he5:e5=0
  case neg =>
   have HE:=Lib.hid (HB5.out he5)
   have hq:(e5 != 0)=true:=by rw [bne_iff_ne];exact he5
   clear he5
   refine zaf (i:=4) (v := ?v4_262) (a' := ?a4_262) rfl (by kernel_rfl) (by kernel_rfl) (by kernel_rfl) (fun _ _ _ h=>h) hC ?w4_262 ?y4_262 ?f4_262 ?r4_262
   case w4_262=>kernel_rfl
   case y4_262=>(intro w hC;go_simp;try with_reducible rfl)
   case f4_262=>(go_simp;try with_reducible rfl)
   refine zaf (i:=5) (v := ?v5_263) (a' := ?a5_263) rfl (by kernel_rfl) (by kernel_rfl) (by kernel_rfl) (fun _ _ _ h=>h) hC ?w5_263 ?y5_263 ?f5_263 ?r5_263
   case w5_263=>kernel_rfl
   case y5_263=>(intro w hC;go_simp;try with_reducible rfl)
   case f5_263=>(go_simp;try with_reducible rfl)
   refine zas (i:=6) (a' := ?a6_264) rfl (by kernel_rfl) (by kernel_rfl) (by kernel_rfl) (fun _ _ _ h=>h) hC (by kernel_rfl) ?f6_264 ?r6_264
   case f6_264=>(go_simp;try with_reducible rfl)
   refine zas (i:=7) (a' := ?a7_265) rfl (by kernel_rfl) (by kernel_rfl) (by kernel_rfl) (fun _ _ _ h=>h) hC (by kernel_rfl) ?f7_265 ?r7_265
   case f7_265=>(go_simp;try with_reducible rfl)
   refine zas (i:=8) (a' := ?a8_266) rfl (by kernel_rfl) (by kernel_rfl) (by kernel_rfl) (fun _ _ _ h=>h) hC (by kernel_rfl) ?f8_266 ?r8_266
   case f8_266=>(go_simp;try with_reducible rfl)
   refine zas (i:=9) (a' := ?a9_267) rfl (by kernel_rfl) (by kernel_rfl) (by kernel_rfl) (fun _ _ _ h=>h) hC (by kernel_rfl) ?f9_267 ?r9_267
   case f9_267=>(go_simp;try with_reducible rfl)
   refine zas (i:=10) (a' := ?a10_268) rfl (by kernel_rfl) (by kernel_rfl) (by kernel_rfl) (fun _ _ _ h=>h) hC (by kernel_rfl) ?f10_268 ?r10_268
   case f10_268=>(go_simp;try with_reducible rfl)
   refine zas (i:=11) (a' := ?a11_269) rfl (by kernel_rfl) (by kernel_rfl) (by kernel_rfl) (fun _ _ _ h=>h) hC (by kernel_rfl) ?f11_269 ?r11_269
   case f11_269=>(go_simp;try with_reducible rfl)
   refine zaf (i:=12) (v := ?v12_270) (a' := ?a12_270) rfl (by kernel_rfl) (by kernel_rfl) (by kernel_rfl) (fun _ _ _ h=>h) hC ?w12_270 ?y12_270 ?f12_270 ?r12_270
   case w12_270=>kernel_rfl
   case y12_270=>(intro w hC;go_simp;try with_reducible rfl)
   case f12_270=>(go_simp;try with_reducible rfl)
   refine zaf (i:=13) (v := ?v13_271) (a' := ?a13_271) rfl (by kernel_rfl) (by kernel_rfl) (by kernel_rfl) (fun _ _ _ h=>h) hC ?w13_271 ?y13_271 ?f13_271 ?r13_271
   case w13_271=>kernel_rfl
   case y13_271=>(intro w hC;go_simp;try with_reducible rfl)
   case f13_271=>(go_simp;try with_reducible rfl)
   refine zas (i:=14) (a' := ?a14_272) rfl (by kernel_rfl) (by kernel_rfl) (by kernel_rfl) (fun _ _ _ h=>h) hC (by kernel_rfl) ?f14_272 ?r14_272
   case f14_272=>(go_simp;try with_reducible rfl)
   refine zas (i:=15) (a' := ?a15_273) rfl (by kernel_rfl) (by kernel_rfl) (by kernel_rfl) (fun _ _ _ h=>h) hC (by kernel_rfl) ?f15_273 ?r15_273
   case f15_273=>(go_simp;try with_reducible rfl)
   refine zas (i:=16) (a' := ?a16_274) rfl (by kernel_rfl) (by kernel_rfl) (by kernel_rfl) (fun _ _ _ h=>h) hC (by kernel_rfl) ?f16_274 ?r16_274
   case f16_274=>(go_simp;try with_reducible rfl)
   refine zas (i:=17) (a' := ?a17_275) rfl (by kernel_rfl) (by kernel_rfl) (by kernel_rfl) (fun _ _ _ h=>h) hC (by kernel_rfl) ?f17_275 ?r17_275
   case f17_275=>(go_simp;try with_reducible rfl)
   refine zaf (i:=18) (v := ?v18_276) (a' := ?a18_276) rfl (by kernel_rfl) (by kernel_rfl) (by kernel_rfl) (fun _ _ _ h=>h) hC ?w18_276 ?y18_276 ?f18_276 ?r18_276
   case w18_276=>kernel_rfl
   case y18_276=>(intro w hC;go_simp;try with_reducible rfl)
   case f18_276=>(go_simp;try with_reducible rfl)
   refine zaf (i:=19) (v := ?v19_277) (a' := ?a19_277) rfl (by kernel_rfl) (by kernel_rfl) (by kernel_rfl) (fun _ _ _ h=>h) hC ?w19_277 ?y19_277 ?f19_277 ?r19_277
   case w19_277=>kernel_rfl
   case y19_277=>(intro w hC;go_simp;try with_reducible rfl)
   case f19_277=>(go_simp;try with_reducible rfl)
   refine zas (i:=20) (a' := ?a20_278) rfl (by kernel_rfl) (by kernel_rfl) (by kernel_rfl) (fun _ _ _ h=>h) hC (by kernel_rfl) ?f20_278 ?r20_278
   case f20_278=>(go_simp;try with_reducible rfl)
   refine zas (i:=21) (a' := ?a21_279) rfl (by kernel_rfl) (by kernel_rfl) (by kernel_rfl) (fun _ _ _ h=>h) hC (by kernel_rfl) ?f21_279 ?r21_279
   case f21_279=>(go_simp;try with_reducible rfl)
   refine zas (i:=22) (a' := ?a22_280) rfl (by kernel_rfl) (by kernel_rfl) (by kernel_rfl) (fun _ _ _ h=>h) hC (by kernel_rfl) ?f22_280 ?r22_280
   case f22_280=>(go_simp;try with_reducible rfl)
   refine zaf (i:=23) (v := ?v23_281) (a' := ?a23_281) rfl (by kernel_rfl) (by kernel_rfl) (by kernel_rfl) (fun _ _ _ h=>h) hC ?w23_281 ?y23_281 ?f23_281 ?r23_281
   case w23_281=>kernel_rfl
   case y23_281=>(intro w hC;go_simp;try with_reducible rfl)
   case f23_281=>(go_simp;try with_reducible rfl)
   refine zbc (by kernel_rfl) ?_
   clear hq
   go_wp2_with (first|((with_reducible refine zax ?_);refine wpList_build rfl 37 _ rfl #[] rfl (mvs Mm.zero Lo.zero).toArray zcz ?_)|((with_reducible refine zax ?_);refine wpList_store_mid rfl 37 _ _ rfl w.heap.size 0 (mvs Mm.zero Lo.zero).toArray rfl rfl (HT4.out _ hC) zbn (zd6 _ _) ?_))
   refine bodyPost_ret (zbd rfl _ _ w.heap.size (mvs Mm.zero Lo.zero) _ rfl (World.rangeAt_setCells_same _ _ _ _ (HT4.out _ hC)) Tryz.underlying37 rfl zbn) rfl ?_
   rw [HE.out]
   exact ⟨Lo.zero,rfl,MsAt.zero _ _,LoFr.zero _,HSB.out _ _ hC⟩
  subst he5
  refine zaf (i:=4) (v := ?v4_282) (a' := ?a4_282) rfl (by kernel_rfl) (by kernel_rfl) (by kernel_rfl) (fun _ _ _ h=>h) hC ?w4_282 ?y4_282 ?f4_282 ?r4_282
  case w4_282=>kernel_rfl
  case y4_282=>(intro w hC;go_simp;try with_reducible rfl)
  case f4_282=>(go_simp;try with_reducible rfl)
  refine zaf (i:=5) (v := ?v5_283) (a' := ?a5_283) rfl (by kernel_rfl) (by kernel_rfl) (by kernel_rfl) (fun _ _ _ h=>h) hC ?w5_283 ?y5_283 ?f5_283 ?r5_283
  case w5_283=>kernel_rfl
  case y5_283=>(intro w hC;go_simp;try with_reducible rfl)
  case f5_283=>(go_simp;try with_reducible rfl)
  refine zaf (i:=6) (v := ?v6_284) (a' := ?a6_284) rfl (by kernel_rfl) (by kernel_rfl) (by kernel_rfl) (fun _ _ _ h=>h) hC ?w6_284 ?y6_284 ?f6_284 ?r6_284
  case w6_284=>kernel_rfl
  case y6_284=>(intro w hC;go_simp;try with_reducible rfl)
  case f6_284=>(go_simp;try with_reducible rfl)
  refine zaf (i:=7) (v := ?v7_285) (a' := ?a7_285) rfl (by kernel_rfl) (by kernel_rfl) (by kernel_rfl) (fun _ _ _ h=>h) hC ?w7_285 ?y7_285 ?f7_285 ?r7_285
  case w7_285=>kernel_rfl
  case y7_285=>(intro w hC;go_simp;try with_reducible rfl)
  case f7_285=>(go_simp;try with_reducible rfl)
  refine zaf (i:=8) (v := ?v8_286) (a' := ?a8_286) rfl (by kernel_rfl) (by kernel_rfl) (by kernel_rfl) (fun _ _ _ h=>h) hC ?w8_286 ?y8_286 ?f8_286 ?r8_286
  case w8_286=>kernel_rfl
  case y8_286=>(intro w hC;go_simp;try with_reducible rfl)
  case f8_286=>(go_simp;try with_reducible rfl)
  refine zaf (i:=9) (v := ?v9_287) (a' := ?a9_287) rfl (by kernel_rfl) (by kernel_rfl) (by kernel_rfl) (fun _ _ _ h=>h) hC ?w9_287 ?y9_287 ?f9_287 ?r9_287
  case w9_287=>kernel_rfl
  case y9_287=>(intro W hW;exact by refine zbw 122 (.tmp 42) ?_ (w.heap.size+1) ?_ [.slice A n cap,.int .i64 a5] _ (zer (ys:=[.int .i64 0]) (HRD.out _ hW).rng) Tryz.underlying122 rfl zn4<;>rfl)
  case f9_287=>(go_simp;try with_reducible rfl)
  refine za5 (i:=10) rfl (by kernel_rfl) (by kernel_rfl) (fun K hK => ?_)
  go_simp
  refine (zl3 A n cap a5 _).mono ?_
  rintro e u3 ⟨rfl,hb⟩
  have hC3:Below w9b.heap.size w9b u3:=hC.trans (hb.mono hC.size)
  refine hK _ _ ⟨hC3,?_⟩
  clear hK K hb
  by_cases ha5:a5=(n:Int)
  case neg =>
   have HE:=Lib.hid (HBL.out (by rw [HNL.out];exact ha5))
   have hq:(a5 == (n:Int))=false:=by rw [beq_eq_false_iff_ne];exact ha5
   clear ha5
   refine zaf (i:=11) (v := ?v11_288) (a' := ?a11_288) rfl (by kernel_rfl) (by kernel_rfl) (by kernel_rfl) (fun _ _ _ h=>h) hC3 ?w11_288 ?y11_288 ?f11_288 ?r11_288
   case w11_288=>kernel_rfl
   case y11_288=>(intro w hC;go_simp;try with_reducible rfl)
   case f11_288=>(go_simp;try with_reducible rfl)
   refine zaf (i:=12) (v := ?v12_289) (a' := ?a12_289) rfl (by kernel_rfl) (by kernel_rfl) (by kernel_rfl) (fun _ _ _ h=>h) hC3 ?w12_289 ?y12_289 ?f12_289 ?r12_289
   case w12_289=>kernel_rfl
   case y12_289=>(intro w hC;go_simp;try with_reducible rfl)
   case f12_289=>(go_simp;try with_reducible rfl)
   refine zaf (i:=13) (v := ?v13_290) (a' := ?a13_290) rfl (by kernel_rfl) (by kernel_rfl) (by kernel_rfl) (fun _ _ _ h=>h) hC3 ?w13_290 ?y13_290 ?f13_290 ?r13_290
   case w13_290=>kernel_rfl
   case y13_290=>(intro w hC;go_simp;try with_reducible rfl)
   case f13_290=>(go_simp;try with_reducible rfl)
   refine zas (i:=14) (a' := ?a14_291) rfl (by kernel_rfl) (by kernel_rfl) (by kernel_rfl) (fun _ _ _ h=>h) hC3 (by kernel_rfl) ?f14_291 ?r14_291
   case f14_291=>(go_simp;try with_reducible rfl)
   refine zas (i:=15) (a' := ?a15_292) rfl (by kernel_rfl) (by kernel_rfl) (by kernel_rfl) (fun _ _ _ h=>h) hC3 (by kernel_rfl) ?f15_292 ?r15_292
   case f15_292=>(go_simp;try with_reducible rfl)
   refine zas (i:=16) (a' := ?a16_293) rfl (by kernel_rfl) (by kernel_rfl) (by kernel_rfl) (fun _ _ _ h=>h) hC3 (by kernel_rfl) ?f16_293 ?r16_293
   case f16_293=>(go_simp;try with_reducible rfl)
   refine zas (i:=17) (a' := ?a17_294) rfl (by kernel_rfl) (by kernel_rfl) (by kernel_rfl) (fun _ _ _ h=>h) hC3 (by kernel_rfl) ?f17_294 ?r17_294
   case f17_294=>(go_simp;try with_reducible rfl)
   refine zaf (i:=18) (v := ?v18_295) (a' := ?a18_295) rfl (by kernel_rfl) (by kernel_rfl) (by kernel_rfl) (fun _ _ _ h=>h) hC3 ?w18_295 ?y18_295 ?f18_295 ?r18_295
   case w18_295=>kernel_rfl
   case y18_295=>(intro w hC;go_simp;try with_reducible rfl)
   case f18_295=>(go_simp;try with_reducible rfl)
   refine zaf (i:=19) (v := ?v19_296) (a' := ?a19_296) rfl (by kernel_rfl) (by kernel_rfl) (by kernel_rfl) (fun _ _ _ h=>h) hC3 ?w19_296 ?y19_296 ?f19_296 ?r19_296
   case w19_296=>kernel_rfl
   case y19_296=>(intro w hC;go_simp;try with_reducible rfl)
   case f19_296=>(go_simp;try with_reducible rfl)
   refine zas (i:=20) (a' := ?a20_297) rfl (by kernel_rfl) (by kernel_rfl) (by kernel_rfl) (fun _ _ _ h=>h) hC3 (by kernel_rfl) ?f20_297 ?r20_297
   case f20_297=>(go_simp;try with_reducible rfl)
   refine zas (i:=21) (a' := ?a21_298) rfl (by kernel_rfl) (by kernel_rfl) (by kernel_rfl) (fun _ _ _ h=>h) hC3 (by kernel_rfl) ?f21_298 ?r21_298
   case f21_298=>(go_simp;try with_reducible rfl)
   refine zas (i:=22) (a' := ?a22_299) rfl (by kernel_rfl) (by kernel_rfl) (by kernel_rfl) (fun _ _ _ h=>h) hC3 (by kernel_rfl) ?f22_299 ?r22_299
   case f22_299=>(go_simp;try with_reducible rfl)
   refine zaf (i:=23) (v := ?v23_300) (a' := ?a23_300) rfl (by kernel_rfl) (by kernel_rfl) (by kernel_rfl) (fun _ _ _ h=>h) hC3 ?w23_300 ?y23_300 ?f23_300 ?r23_300
   case w23_300=>kernel_rfl
   case y23_300=>(intro w hC;go_simp;try with_reducible rfl)
   case f23_300=>(go_simp;try with_reducible rfl)
   refine zbc (by kernel_rfl) ?_
   clear hq
   go_wp2_with (first|((with_reducible refine zax ?_);refine wpList_build rfl 37 _ rfl #[] rfl (mvs Mm.zero Lo.zero).toArray zcz ?_)|((with_reducible refine zax ?_);refine wpList_store_mid rfl 37 _ _ rfl w.heap.size 0 (mvs Mm.zero Lo.zero).toArray rfl rfl (HT4.out _ hC3) zbn (zd6 _ _) ?_))
   refine bodyPost_ret (zbd rfl _ _ w.heap.size (mvs Mm.zero Lo.zero) _ rfl (World.rangeAt_setCells_same _ _ _ _ (HT4.out _ hC3)) Tryz.underlying37 rfl zbn) rfl ?_
   rw [HE.out]
   exact ⟨Lo.zero,rfl,MsAt.zero _ _,LoFr.zero _,HSB.out _ _ hC3⟩
  have HA5:=Lib.hid ha5
  have hq:(a5 == (n:Int))=true:=by rw [beq_iff_eq];exact ha5
  clear ha5
  refine zaf (i:=11) (v := ?v11_301) (a' := ?a11_301) rfl (by kernel_rfl) (by kernel_rfl) (by kernel_rfl) (fun _ _ _ h=>h) hC3 ?w11_301 ?y11_301 ?f11_301 ?r11_301
  case w11_301=>kernel_rfl
  case y11_301=>(intro w hC;go_simp;try with_reducible rfl)
  case f11_301=>(go_simp;try with_reducible rfl)
  refine zaf (i:=12) (v := ?v12_302) (a' := ?a12_302) rfl (by kernel_rfl) (by kernel_rfl) (by kernel_rfl) (fun _ _ _ h=>h) hC3 ?w12_302 ?y12_302 ?f12_302 ?r12_302
  case w12_302=>kernel_rfl
  case y12_302=>(intro w hC;go_simp;try with_reducible rfl)
  case f12_302=>(go_simp;try with_reducible rfl)
  refine zaf (i:=13) (v := ?v13_303) (a' := ?a13_303) rfl (by kernel_rfl) (by kernel_rfl) (by kernel_rfl) (fun _ _ _ h=>h) hC3 ?w13_303 ?y13_303 ?f13_303 ?r13_303
  case w13_303=>kernel_rfl
  case y13_303=>(intro w hC;go_simp;try with_reducible rfl)
  case f13_303=>(go_simp;try with_reducible rfl)
  clear hq
  refine zaf (i:=14) (v := ?v14_304) (a' := ?a14_304) rfl (by kernel_rfl) (by kernel_rfl) (by kernel_rfl) (fun _ _ _ h=>h) hC3 ?w14_304 ?y14_304 ?f14_304 ?r14_304
  case w14_304=>kernel_rfl
  case y14_304=>(intro W hW;exact by refine zbw 37 (.tmp 8) ?_ w3.heap.size ?_ L _ (HM8.out _ hW) Tryz.underlying37 rfl hi8.out<;>rfl)
  case f14_304=>(go_simp;try with_reducible rfl)
  refine zaf (i:=16) (v := ?v16_305) (a' := ?a16_305) rfl (by kernel_rfl) (by kernel_rfl) (by kernel_rfl) (fun _ _ _ h=>h) hC3 ?w16_305 ?y16_305 ?f16_305 ?r16_305
  case w16_305=>kernel_rfl
  case y16_305=>(intro W hW;exact by refine zbw 126 (.tmp 7) ?_ w2.heap.size ?_ (i64s ns) _ (HN7.out _ hW) Tryz.underlying126 rfl hs7.out<;>rfl)
  case f16_305=>(go_simp;try with_reducible rfl)
  refine za5 (i:=15) rfl (by kernel_rfl) (by kernel_rfl) (fun K hK => ?_)
  go_simp
  refine (HNX.out _).mono ?_
  rintro e u4 ⟨rfl,hb⟩
  have hC4:Below w9b.heap.size w9b u4:=hC3.trans (hb.mono hC3.size)
  refine hK _ _ ⟨hC4,?_⟩
  clear hK K hb
  by_cases en:x5.nums=ns
  case neg =>
   have hbe:(x5.nums == ns)=false:=by rw [beq_eq_false_iff_ne];exact en
   have HE:=Lib.hid (HNE.out en)
   rw [hbe] at hEN
   clear en hbe
   refine zaf (i:=17) (v := ?v17_306) (a' := ?a17_306) rfl (by kernel_rfl) (by kernel_rfl) (by kernel_rfl) (fun _ _ _ h=>h) hC4 ?w17_306 ?y17_306 ?f17_306 ?r17_306
   case w17_306=>kernel_rfl
   case y17_306=>(intro w hC;have h4:=hEN.out w;go_simp;try with_reducible rfl)
   case f17_306=>(go_simp;try with_reducible rfl)
   refine zaf (i:=18) (v := ?v18_307) (a' := ?a18_307) rfl (by kernel_rfl) (by kernel_rfl) (by kernel_rfl) (fun _ _ _ h=>h) hC4 ?w18_307 ?y18_307 ?f18_307 ?r18_307
   case w18_307=>kernel_rfl
   case y18_307=>(intro w hC;go_simp;try with_reducible rfl)
   case f18_307=>(go_simp;try with_reducible rfl)
   refine zaf (i:=19) (v := ?v19_308) (a' := ?a19_308) rfl (by kernel_rfl) (by kernel_rfl) (by kernel_rfl) (fun _ _ _ h=>h) hC4 ?w19_308 ?y19_308 ?f19_308 ?r19_308
   case w19_308=>kernel_rfl
   case y19_308=>(intro w hC;go_simp;try with_reducible rfl)
   case f19_308=>(go_simp;try with_reducible rfl)
   refine zas (i:=20) (a' := ?a20_309) rfl (by kernel_rfl) (by kernel_rfl) (by kernel_rfl) (fun _ _ _ h=>h) hC4 (by kernel_rfl) ?f20_309 ?r20_309
   case f20_309=>(go_simp;try with_reducible rfl)
   refine zas (i:=21) (a' := ?a21_310) rfl (by kernel_rfl) (by kernel_rfl) (by kernel_rfl) (fun _ _ _ h=>h) hC4 (by kernel_rfl) ?f21_310 ?r21_310
   case f21_310=>(go_simp;try with_reducible rfl)
   refine zas (i:=22) (a' := ?a22_311) rfl (by kernel_rfl) (by kernel_rfl) (by kernel_rfl) (fun _ _ _ h=>h) hC4 (by kernel_rfl) ?f22_311 ?r22_311
   case f22_311=>(go_simp;try with_reducible rfl)
   refine zaf (i:=23) (v := ?v23_312) (a' := ?a23_312) rfl (by kernel_rfl) (by kernel_rfl) (by kernel_rfl) (fun _ _ _ h=>h) hC4 ?w23_312 ?y23_312 ?f23_312 ?r23_312
   case w23_312=>kernel_rfl
   case y23_312=>(intro w hC;go_simp;try with_reducible rfl)
   case f23_312=>(go_simp;try with_reducible rfl)
   refine zbc (by kernel_rfl) ?_
   go_wp2_with (first|((with_reducible refine zax ?_);refine wpList_build rfl 37 _ rfl #[] rfl (mvs Mm.zero Lo.zero).toArray zcz ?_)|((with_reducible refine zax ?_);refine wpList_store_mid rfl 37 _ _ rfl w.heap.size 0 (mvs Mm.zero Lo.zero).toArray rfl rfl (HT4.out _ hC4) zbn (zd6 _ _) ?_))
   refine bodyPost_ret (zbd rfl _ _ w.heap.size (mvs Mm.zero Lo.zero) _ rfl (World.rangeAt_setCells_same _ _ _ _ (HT4.out _ hC4)) Tryz.underlying37 rfl zbn) rfl ?_
   rw [HE.out]
   exact ⟨Lo.zero,rfl,MsAt.zero _ _,LoFr.zero _,HSB.out _ _ hC4⟩
  have hbe:(x5.nums == ns)=true:=by rw [beq_iff_eq];exact en
  rw [hbe] at hEN
  have EN:=Lib.hid en
  clear en hbe
  refine zaf (i:=17) (v := ?v17_313) (a' := ?a17_313) rfl (by kernel_rfl) (by kernel_rfl) (by kernel_rfl) (fun _ _ _ h=>h) hC4 ?w17_313 ?y17_313 ?f17_313 ?r17_313
  case w17_313=>kernel_rfl
  case y17_313=>(intro w hC;have h4:=hEN.out w;go_simp;try with_reducible rfl)
  case f17_313=>(go_simp;try with_reducible rfl)
  refine zaf (i:=18) (v := ?v18_314) (a' := ?a18_314) rfl (by kernel_rfl) (by kernel_rfl) (by kernel_rfl) (fun _ _ _ h=>h) hC4 ?w18_314 ?y18_314 ?f18_314 ?r18_314
  case w18_314=>kernel_rfl
  case y18_314=>(intro w hC;go_simp;try with_reducible rfl)
  case f18_314=>(go_simp;try with_reducible rfl)
  refine zaf (i:=19) (v := ?v19_315) (a' := ?a19_315) rfl (by kernel_rfl) (by kernel_rfl) (by kernel_rfl) (fun _ _ _ h=>h) hC4 ?w19_315 ?y19_315 ?f19_315 ?r19_315
  case w19_315=>kernel_rfl
  case y19_315=>(intro w hC;go_simp;try with_reducible rfl)
  case f19_315=>(go_simp;try with_reducible rfl)
  refine zaf (i:=20) (v := ?v20_316) (a' := ?a20_316) rfl (by kernel_rfl) (by kernel_rfl) (by kernel_rfl) (fun _ _ _ h=>h) hC4 ?w20_316 ?y20_316 ?f20_316 ?r20_316
  case w20_316=>kernel_rfl
  case y20_316=>(intro W hW;exact by refine zbw 37 (.tmp 8) ?_ w3.heap.size ?_ L _ (HM8.out _ hW) Tryz.underlying37 rfl hi8.out<;>rfl)
  case f20_316=>(go_simp;try with_reducible rfl)
  refine za5 (i:=21) rfl (by kernel_rfl) (by kernel_rfl) (fun K hK => ?_)
  go_simp
  refine (HRI.out _ hC4 (HT.out.below (HW.out _ hC4) (Nat.le_refl _))).mono ?_
  rintro e u5 ⟨rfl,hb⟩
  have hC5:Below w9b.heap.size w9b u5:=hC4.trans (hb.mono hC4.size)
  refine hK _ _ ⟨hC5,?_⟩
  clear hK K hb
  cases hrr:x5.right
  case false =>
   have HE:=Lib.hid (HBR.out hrr)
   clear hrr
   refine zaf (i:=22) (v := ?v22_317) (a' := ?a22_317) rfl (by kernel_rfl) (by kernel_rfl) (by kernel_rfl) (fun _ _ _ h=>h) hC5 ?w22_317 ?y22_317 ?f22_317 ?r22_317
   case w22_317=>kernel_rfl
   case y22_317=>(intro w hC;go_simp;try with_reducible rfl)
   case f22_317=>(go_simp;try with_reducible rfl)
   refine zaf (i:=23) (v := ?v23_318) (a' := ?a23_318) rfl (by kernel_rfl) (by kernel_rfl) (by kernel_rfl) (fun _ _ _ h=>h) hC5 ?w23_318 ?y23_318 ?f23_318 ?r23_318
   case w23_318=>kernel_rfl
   case y23_318=>(intro w hC;go_simp;try with_reducible rfl)
   case f23_318=>(go_simp;try with_reducible rfl)
   refine zbc (by kernel_rfl) ?_
   go_wp2_with (first|((with_reducible refine zax ?_);refine wpList_build rfl 37 _ rfl #[] rfl (mvs Mm.zero Lo.zero).toArray zcz ?_)|((with_reducible refine zax ?_);refine wpList_store_mid rfl 37 _ _ rfl w.heap.size 0 (mvs Mm.zero Lo.zero).toArray rfl rfl (HT4.out _ hC5) zbn (zd6 _ _) ?_))
   refine bodyPost_ret (zbd rfl _ _ w.heap.size (mvs Mm.zero Lo.zero) _ rfl (World.rangeAt_setCells_same _ _ _ _ (HT4.out _ hC5)) Tryz.underlying37 rfl zbn) rfl ?_
   rw [HE.out]
   exact ⟨Lo.zero,rfl,MsAt.zero _ _,LoFr.zero _,HSB.out _ _ hC5⟩
  have HE:=Lib.hid (HOK.out rfl (by rw [HNL.out];exact HA5.out) EN.out hrr)
  clear hrr
  refine zaf (i:=22) (v := ?v22_319) (a' := ?a22_319) rfl (by kernel_rfl) (by kernel_rfl) (by kernel_rfl) (fun _ _ _ h=>h) hC5 ?w22_319 ?y22_319 ?f22_319 ?r22_319
  case w22_319=>kernel_rfl
  case y22_319=>(intro w hC;go_simp;try with_reducible rfl)
  case f22_319=>(go_simp;try with_reducible rfl)
  refine zaf (i:=23) (v := ?v23_320) (a' := ?a23_320) rfl (by kernel_rfl) (by kernel_rfl) (by kernel_rfl) (fun _ _ _ h=>h) hC5 ?w23_320 ?y23_320 ?f23_320 ?r23_320
  case w23_320=>kernel_rfl
  case y23_320=>(intro w hC;go_simp;try with_reducible rfl)
  case f23_320=>(go_simp;try with_reducible rfl)
  refine zbc (by kernel_rfl) ?_
  have HM:=Lib.hid (HM8.out _ hC5)
  have HT5:=Lib.hid (ht9.out _ hC5)
  go_wp2_with (first|((with_reducible refine zax ?_);refine wpList_load_mid rfl 37 _ rfl w3.heap.size 0 rfl L _ HM.out Tryz.underlying37 rfl hi8.out ?_)|((with_reducible refine zax ?_);refine wpList_store_mid rfl 37 _ _ rfl w.heap.size 0 L.toArray rfl rfl HT5.out hi9.out ho9.out ?_))
  refine bodyPost_ret (zbd rfl _ _ w.heap.size L _ rfl (World.rangeAt_setCells_same _ _ _ _ HT5.out) Tryz.underlying37 rfl hi8.out) rfl ?_
  rw [HE.out,HL.out]
  have hgs:=za6 w.heap.size (mvs x5 l5) 0 u5
  exact ⟨l5,rfl,(((HMS.out _ hC5).more hC5.size).other HFR.out hgs hb8.out (Nat.le_refl _)).more hgs.size,HFR.out.mono (Nat.le_of_lt hb8.out),HSB.out _ _ hC5⟩
end Go.Proofs.YtponpgcpmlcdpaaGreatDoor
