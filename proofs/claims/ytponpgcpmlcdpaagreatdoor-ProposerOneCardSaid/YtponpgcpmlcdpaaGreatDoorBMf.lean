import Derived.Test.YtponpgcpmlcdpaaGreatDoorBMa
import Derived.Test.YtponpgcpmlcdpaaGreatDoorKitH
set_option maxRecDepth 100000
namespace Go.Proofs.YtponpgcpmlcdpaaGreatDoor
open Go.RowKit Go.Shelf
theorem Rd.other {w w':World} {B b base:Nat} {A:Option Addr} {vs:List Value} (h:Rd w B A vs) (hf:Fr base A) (hg:w.grownBy w' (some b)) (hb:b < base) (hB:B≤w.heap.size):Rd w' B A vs:=fun j u hj=>by
 obtain ⟨ad,e,hl,hc⟩:=h j u hj
 have h1:=hf ad e
 exact ⟨ad,e,hl,(World.cell?_of_block (by rw [zb1];exact hg.block _ (by omega) (fun q=>by injection q with q;omega))).trans hc⟩
theorem PlAt.other {w w':World} {B b base:Nat} {x:Pm.Pl} {A:Option Addr} {n c:Nat} {A':Option Addr} {n' c':Nat} (h:PlAt w B x A n c A' n' c') (hf:Fr base A) (hf':Fr base A') (hg:w.grownBy w' (some b)) (hb:b < base) (hB:B≤w.heap.size):PlAt w' B x A n c A' n' c' :=
 ⟨h.ok,h.r1.other hf hg hb hB,h.l1,h.c1,h.m1,h.r2.other hf' hg hb hB,h.l2,h.c2,h.m2⟩
theorem zed (l:List Int):(i64s l).length=l.length:=by rw [List.length_map]
theorem zhw:Tryz.prog.built 126 []=some (i64s Mm.zeros).toArray:=by kernel_rfl
theorem zhv:Tryz.prog.built 34 []=some (pvs Pm.zero none 0 0 none 0 0).toArray:=by kernel_rfl
theorem zcz:Tryz.prog.built 37 []=some (mvs Mm.zero Lo.zero).toArray:=by kernel_rfl
set_option maxHeartbeats 2000000 in
theorem zke (A : Option Addr) (n cap B : Nat) (xs : List Int) (t : Int) (w : World) (hx : Rd w B A (u8s xs)) (hn : xs.length = n) (hnc : n ≤ cap) (hcap : cap ≤ maxLen) (hB : B ≤ w.heap.size) (hb : Fm.By xs)
  (t0 : -9223372036854775808≤t) (t1:t≤9223372036854775807) :
  Calls Tryz.prog 79 #[.slice A n cap,.int .i64 t] w fun e w'=>e = .returned (.tuple #[.agg (i64s (Mm.rN xs t).1).toArray,.int .i64 (Mm.rN xs t).2.1,.int .i64 (Mm.rN xs t).2.2])∧Below w.heap.size w w':=by
 have hb1:Hid (Below w.heap.size w (w.alloc (.cells (i64s Mm.zeros).toArray 126))):=(Below.refl _ w).alloc (Nat.le_refl _) _
 have hz1:(w.alloc (.cells (i64s Mm.zeros).toArray 126)).heap.size=w.heap.size+1:=World.size_alloc ..
 have hth:=zby w (i64s Mm.zeros) 126
 have HC:=Lib.hid (zkx A n cap B xs t (w.alloc (.cells (i64s Mm.zeros).toArray 126)) (hx.below (hb1.out.mono hB)) hn hnc hcap (by omega) hb t0 t1)
 have HTH:=Lib.hid (fun (W:World) (h:Below (w.heap.size+1) (w.alloc (.cells (i64s Mm.zeros).toArray 126)) W)=>(za9 hth h (Nat.lt_succ_self _):W.there w.heap.size 0 10))
 have HST:=Lib.hid (fun (W:World) (cs:List Value) (h:Below (w.heap.size+1) (w.alloc (.cells (i64s Mm.zeros).toArray 126)) W) =>
  (below_grown (hb1.out.trans (h.mono (Nat.le_succ _))) (za6 w.heap.size cs 0 W) (Nat.le_refl _) (hb1.out.trans (h.mono (Nat.le_succ _))).size:Below w.heap.size w (W.setCells w.heap.size 0 cs)))
 have HZ:=Lib.hid hz1
 clear hx hth hz1
 by_cases he:(Wm.za1 xs t).2.2=0
 case neg =>
  have HE:=Lib.hid (Mm.znw he)
  generalize Wm.za1 xs t=q at *
  obtain ⟨q1,q2,q3⟩:=q
  dsimp only at *
  have hq:(q3 != 0)=true:=by rw [bne_iff_ne];exact he
  clear he
  go_enter Tryz.func79,Tryz.ntmps79
  go_wp2_with (go_at_call 84;fail)
  refine HC.out.mono ?_
  rintro e w2 ⟨v,rfl,hown,hb2⟩
  rw [HZ.out] at hb2
  have ht2:=Lib.hid (HTH.out w2 hb2)
  have hs2:=Lib.hid (HST.out w2 (i64s Mm.zeros) hb2)
  clear hown
  go_wp2_with (first|(refine wpList_build rfl 126 _ rfl #[] rfl (i64s Mm.zeros).toArray zhw ?_)|(refine wpList_store_mid rfl 126 _ _ rfl w.heap.size 0 (i64s Mm.zeros).toArray rfl rfl ht2.out zbi (zdk _) ?_))
  refine bodyPost_ret (zcy rfl _ _ w.heap.size (i64s Mm.zeros) _ rfl (World.rangeAt_setCells_same _ _ _ _ ht2.out) Tryz.underlying126 rfl zbi) rfl ?_
  rw [HE.out]
  exact ⟨rfl,hs2.out⟩
 by_cases hl:(Wm.za1 xs t).1.length=10
 case neg =>
  have HE:=Lib.hid (Mm.znv he hl)
  generalize Wm.za1 xs t=q at *
  obtain ⟨q1,q2,q3⟩:=q
  dsimp only at *
  subst he
  have hq:((q1.length:Int) != 10)=true:=by rw [bne_iff_ne];omega
  clear hl
  go_enter Tryz.func79,Tryz.ntmps79
  go_wp2_with (go_at_call 84;fail)
  refine HC.out.mono ?_
  rintro e w2 ⟨v,rfl,hown,hb2⟩
  obtain ⟨A2,c2,rfl,-,-,-⟩:=za4 hown
  rw [HZ.out] at hb2
  have ht2:=Lib.hid (HTH.out w2 hb2)
  have hs2:=Lib.hid (HST.out w2 (i64s Mm.zeros) hb2)
  clear hown
  go_wp2_with (first|(refine wpList_build rfl 126 _ rfl #[] rfl (i64s Mm.zeros).toArray zhw ?_)|(refine wpList_store_mid rfl 126 _ _ rfl w.heap.size 0 (i64s Mm.zeros).toArray rfl rfl ht2.out zbi (zdk _) ?_))
  refine bodyPost_ret (zcy rfl _ _ w.heap.size (i64s Mm.zeros) _ rfl (World.rangeAt_setCells_same _ _ _ _ ht2.out) Tryz.underlying126 rfl zbi) rfl ?_
  rw [HE.out]
  exact ⟨rfl,hs2.out⟩
 have HE:=Lib.hid (Mm.zqf he hl)
 generalize Wm.za1 xs t=q at *
 obtain ⟨q1,q2,q3⟩:=q
 dsimp only at *
 subst he
 have hl1:Hid ((Tryz.prog.info? 126).map (·.size)=some (i64s q1).length):=by rw [zed,hl];exact Lib.hid zbi
 have HL:Hid ((i64s q1).length=10):=by rw [zed,hl];exact Lib.hid rfl
 rw [hl] at HC
 clear hl
 go_enter Tryz.func79,Tryz.ntmps79
 go_wp2_with (go_at_call 84;fail)
 refine HC.out.mono ?_
 rintro e w2 ⟨v,rfl,hown,hb2⟩
 obtain ⟨g,c2,rfl,-,-⟩:=hown.form (by omega)
 have hr2:=Lib.hid (zfe hown)
 have hA:=run_arrayAt (P:=Tryz.prog) w2 126 2 10 (some ⟨g,0,none⟩) 10 c2 Tryz.underlying126 (Nat.le_refl _)
 rw [HZ.out] at hb2
 have e10:(i64s q1).toArray.size=10:=by rw [List.size_toArray,HL.out]
 have ht2:Hid (w2.there w.heap.size 0 (i64s q1).toArray.size):=by rw [e10];exact Lib.hid (HTH.out w2 hb2)
 have hs2:=Lib.hid (HST.out w2 (i64s q1) hb2)
 have hl2:Hid ((Tryz.prog.info? 126).map (·.size)=some (i64s q1).toArray.size):=by rw [List.size_toArray];exact hl1
 clear hown hb2 e10
 go_wp2_with (first|(refine wpList_load_mid rfl 126 _ rfl g 0 rfl (i64s q1) _ hr2.out Tryz.underlying126 rfl hl1.out ?_)|(refine wpList_store_mid rfl 126 _ _ rfl w.heap.size 0 (i64s q1).toArray rfl rfl ht2.out hl2.out (zdk _) ?_))
 refine bodyPost_ret (zcy rfl _ _ w.heap.size (i64s q1) _ rfl (World.rangeAt_setCells_same _ _ _ _ (by have:=ht2.out;rwa [List.size_toArray] at this)) Tryz.underlying126 rfl hl1.out) rfl ?_
 rw [HE.out]
 exact ⟨rfl,hs2.out⟩
set_option maxHeartbeats 2000000 in
theorem zo2 (A : Option Addr) (n cap B : Nat) (xs : List Int) (t : Int) (w : World) (hx : Rd w B A (u8s xs)) (hn : xs.length = n) (hnc : n ≤ cap) (hcap : cap ≤ maxLen) (hB : B ≤ w.heap.size) (hb : Fm.By xs)
  (t0 : -9223372036854775808≤t) (t1:t≤9223372036854775807) (htab:Tab w) :
  Calls Tryz.prog 82 #[.slice A n cap,.int .i64 t] w fun e w'=>∃A1 n1 c1 A2 n2 c2,e = .returned (.tuple #[pv (Mm.rP xs t).1 A1 n1 c1 A2 n2 c2,.int .i64 (Mm.rP xs t).2.1,.int .i64 (Mm.rP xs t).2.2])∧PlAt w' w'.heap.size (Mm.rP xs t).1 A1 n1 c1 A2 n2 c2∧Fr w.heap.size A1∧Fr w.heap.size A2∧Below w.heap.size w w':=by
 have hb1:Hid (Below w.heap.size w (w.alloc (.cells (pvs Pm.zero none 0 0 none 0 0).toArray 34))):=(Below.refl _ w).alloc (Nat.le_refl _) _
 have hz1:(w.alloc (.cells (pvs Pm.zero none 0 0 none 0 0).toArray 34)).heap.size=w.heap.size+1:=World.size_alloc ..
 have hth:=zby w (pvs Pm.zero none 0 0 none 0 0) 34
 have HC:=Lib.hid (zoj A n cap B xs t (w.alloc (.cells (pvs Pm.zero none 0 0 none 0 0).toArray 34)) (hx.below (hb1.out.mono hB)) hn hnc hcap (by omega) hb t0 t1)
 have HTH:=Lib.hid (fun (W:World) (h:Below (w.heap.size+1) (w.alloc (.cells (pvs Pm.zero none 0 0 none 0 0).toArray 34)) W)=>(za9 hth h (Nat.lt_succ_self _):W.there w.heap.size 0 12))
 have HST:=Lib.hid (fun (W:World) (cs:List Value) (h:Below (w.heap.size+1) (w.alloc (.cells (pvs Pm.zero none 0 0 none 0 0).toArray 34)) W) =>
  (below_grown (hb1.out.trans (h.mono (Nat.le_succ _))) (za6 w.heap.size cs 0 W) (Nat.le_refl _) (hb1.out.trans (h.mono (Nat.le_succ _))).size:Below w.heap.size w (W.setCells w.heap.size 0 cs)))
 have HT:=Lib.hid (htab.below hb1.out (Nat.le_refl _))
 have HBY:Hid (Fm.By (Wm.zbl xs t).1):=by
  by_cases h:(Wm.zbl xs t).2.2=0
  ·by_cases h0:0≤t
   ·obtain ⟨k,rfl⟩:=Int.eq_ofNat_of_zero_le h0
    obtain ⟨s,to,e⟩:=Mm.zf9 h hb
    rw [e]
    exact (Mm.zho e hb).2.1
   ·exfalso
    by_cases he:(Wm.rlen xs t 4096).2.2=0
    ·obtain ⟨_,_,_,_,_,h1,_⟩:=Wm.zd1 he hb
     exact h0 h1
    ·rw [Wm.zga he] at h;exact he h
  ·have : (Wm.zbl xs t).1 = [] := by
    unfold Wm.zbl at h ⊢
    split
    ·rfl
    ·split
     ·rfl
     ·rename_i h1 h2
      rw [if_neg h1,if_neg h2] at h
      exact absurd rfl h
   rw [this]
   exact Lib.hid Fm.By.nil
 have HZ:=Lib.hid hz1
 clear hx hth hz1 htab
 by_cases he:(Wm.zbl xs t).2.2=0
 case neg =>
  have HE:=Lib.hid (Mm.rP_err he)
  generalize Wm.zbl xs t=q at *
  obtain ⟨q1,q2,q3⟩:=q
  dsimp only at *
  have hq:(q3 != 0)=true:=by rw [bne_iff_ne];exact he
  clear he
  go_enter Tryz.func82,Tryz.ntmps82
  go_wp2_with (go_at_call 86;fail)
  refine HC.out.mono ?_
  rintro e w2 ⟨v,rfl,hown,hb2⟩
  rw [HZ.out] at hb2
  have ht2:=Lib.hid (HTH.out w2 hb2)
  have hs2:=Lib.hid (HST.out w2 (pvs Pm.zero none 0 0 none 0 0) hb2)
  clear hown
  go_wp2_with (first|(refine wpList_build rfl 34 _ rfl #[] rfl (pvs Pm.zero none 0 0 none 0 0).toArray zhv ?_)|(refine wpList_store_mid rfl 34 _ _ rfl w.heap.size 0 (pvs Pm.zero none 0 0 none 0 0).toArray rfl rfl ht2.out za2 (zdg _ _ _ _ _ _ _) ?_))
  refine bodyPost_ret (zcy rfl _ _ w.heap.size (pvs Pm.zero none 0 0 none 0 0) _ rfl (World.rangeAt_setCells_same _ _ _ _ ht2.out) Tryz.underlying34 rfl za2) rfl ?_
  rw [HE.out]
  exact ⟨none,0,0,none,0,0,rfl,PlAt.zero _ _,Fr.none,Fr.none,hs2.out⟩
 have HEN:=Lib.hid (fun h=>Mm.rP_no (b:=xs) (t:=t) he h)
 have HEO:=Lib.hid (fun h=>Mm.rP_ok (b:=xs) (t:=t) he h)
 generalize Wm.zbl xs t=q at *
 obtain ⟨q1,q2,q3⟩:=q
 dsimp only at *
 subst he
 go_enter Tryz.func82,Tryz.ntmps82
 go_wp2_with (go_at_call 86;fail)
 refine HC.out.mono ?_
 rintro e w2 ⟨v,rfl,hown,hb2⟩
 obtain ⟨A2,c2,rfl,hcp2,hcm2,hrd2⟩:=za4 hown
 rw [HZ.out] at hb2
 have hB2:=Lib.hid hb2
 have hw2:w.heap.size+1≤w2.heap.size:=by have:=hb2.size;rw [HZ.out] at this;exact this
 have HGE:=Lib.hid (Get_all A2 q1.length c2 w2.heap.size q1 w2 hrd2 rfl hcp2 hcm2 (Nat.le_refl _) HBY.out (HT.out.below hb2 (by rw [HZ.out];exact Nat.le_refl _)))
 clear hown hrd2 hb2 HC HT
 go_wp2_with (go_at_call 94;fail)
 refine HGE.out.mono ?_
 rintro e w3 ⟨A1,n1,c1,A3,n3,c3,rfl,hpl,hf1,hf3,hb3⟩
 have HPL:=Lib.hid hpl
 have HF1:=Lib.hid hf1
 have HF3:=Lib.hid hf3
 clear hpl hf1 hf3
 have hB3:=Lib.hid (hB2.out.trans (hb3.mono hw2))
 have hw3:=Nat.le_trans hw2 hb3.size
 clear HGE hb3
 by_cases hg:(Pm.get q1).2=0
 ·have HE:=Lib.hid (HEO.out hg)
  generalize Pm.get q1=r at *
  obtain ⟨r1,r2⟩:=r
  dsimp only at *
  subst hg
  have hx4:=Lib.hid (Bx.new w3 r1 A1 n1 c1 A3 n3 c3 34:(w3.alloc (.cells (pvs r1 A1 n1 c1 A3 n3 c3).toArray 34)).rangeAt w3.heap.size 0 (pvs r1 A1 n1 c1 A3 n3 c3))
  have hB4:=hB3.out.alloc (o:=.cells (pvs r1 A1 n1 c1 A3 n3 c3).toArray 34) hw3
  have hk4:Below w3.heap.size w3 (w3.alloc (.cells (pvs r1 A1 n1 c1 A3 n3 c3).toArray 34)):=(Below.refl _ _).alloc (Nat.le_refl _) _
  have ht4:=Lib.hid (HTH.out _ hB4)
  have hs4:=Lib.hid (HST.out _ (pvs r1 A1 n1 c1 A3 n3 c3) hB4)
  have hpf:=Lib.hid ((HPL.out.below hk4 (Nat.le_refl _)).other HF1.out HF3.out (za6 w.heap.size (pvs r1 A1 n1 c1 A3 n3 c3) 0 _) (by omega) (by rw [World.size_alloc];omega))
  have hszf:w3.heap.size≤((w3.alloc (.cells (pvs r1 A1 n1 c1 A3 n3 c3).toArray 34)).setCells w.heap.size 0 (pvs r1 A1 n1 c1 A3 n3 c3)).heap.size:=Nat.le_trans (by rw [World.size_alloc];omega) (za6 w.heap.size (pvs r1 A1 n1 c1 A3 n3 c3) 0 _).size
  have HSZ:=Lib.hid hszf
  clear hB4 hk4 hszf
  go_wp2_with (first|(refine zbm rfl 34 _ _ rfl _ (pvs r1 A1 n1 c1 A3 n3 c3).toArray rfl rfl za2 rfl (zdg _ _ _ _ _ _ _) ?_)|(refine wpList_load_mid rfl 34 _ rfl w3.heap.size 0 rfl (pvs r1 A1 n1 c1 A3 n3 c3) _ hx4.out Tryz.underlying34 rfl za2 ?_)|(refine wpList_store_mid rfl 34 _ _ rfl w.heap.size 0 (pvs r1 A1 n1 c1 A3 n3 c3).toArray rfl rfl ht4.out za2 (zdg _ _ _ _ _ _ _) ?_))
  refine bodyPost_ret (zcy rfl _ _ w.heap.size (pvs r1 A1 n1 c1 A3 n3 c3) _ rfl (World.rangeAt_setCells_same _ _ _ _ ht4.out) Tryz.underlying34 rfl za2) rfl ?_
  rw [HE.out]
  exact ⟨A1,n1,c1,A3,n3,c3,rfl,hpf.out.more HSZ.out,HF1.out.mono (by omega),HF3.out.mono (by omega),hs4.out⟩
 ·have HE:=Lib.hid (HEN.out hg)
  generalize Pm.get q1=r at *
  obtain ⟨r1,r2⟩:=r
  dsimp only at *
  have hq:(r2 != 0)=true:=by rw [bne_iff_ne];exact hg
  clear hg
  have hB4:=hB3.out.alloc (o:=.cells (pvs r1 A1 n1 c1 A3 n3 c3).toArray 34) hw3
  have ht4:=Lib.hid (HTH.out _ hB4)
  have hs4:=Lib.hid (HST.out _ (pvs Pm.zero none 0 0 none 0 0) hB4)
  clear hB4
  go_wp2_with (first|(refine zbm rfl 34 _ _ rfl _ (pvs r1 A1 n1 c1 A3 n3 c3).toArray rfl rfl za2 rfl (zdg _ _ _ _ _ _ _) ?_)|(refine wpList_build rfl 34 _ rfl #[] rfl (pvs Pm.zero none 0 0 none 0 0).toArray zhv ?_)|(refine wpList_store_mid rfl 34 _ _ rfl w.heap.size 0 (pvs Pm.zero none 0 0 none 0 0).toArray rfl rfl ht4.out za2 (zdg _ _ _ _ _ _ _) ?_))
  refine bodyPost_ret (zcy rfl _ _ w.heap.size (pvs Pm.zero none 0 0 none 0 0) _ rfl (World.rangeAt_setCells_same _ _ _ _ ht4.out) Tryz.underlying34 rfl za2) rfl ?_
  rw [HE.out]
  exact ⟨none,0,0,none,0,0,rfl,PlAt.zero _ _,Fr.none,Fr.none,hs4.out⟩
end Go.Proofs.YtponpgcpmlcdpaaGreatDoor
namespace Go.Proofs.YtponpgcpmlcdpaaGreatDoor
open Go.RowKit Go.Shelf
def rdvs (A:Option Addr) (n cap:Nat) (at_ err:Int):List Value:=[.slice A n cap,.int .i64 at_,.int .i64 err]
structure Rdr (w:World) (g:Nat) (A:Option Addr) (n cap:Nat) (at_ err:Int):Prop where
 rng:w.rangeAt g 0 (rdvs A n cap at_ err)
 th:w.there g 0 3
theorem Rdr.below {w w':World} {g:Nat} {A:Option Addr} {n cap:Nat} {at_ err:Int} (h:Rdr w g A n cap at_ err) {B:Nat} (hb:Below B w w') (hB:g < B):Rdr w' g A n cap at_ err :=
 ⟨zdf h.rng hb hB,za9 h.th hb hB⟩
theorem Rdr.c0 {w:World} {g:Nat} {A:Option Addr} {n cap:Nat} {at_ err:Int} (h:Rdr w g A n cap at_ err):w.cell? ⟨g,0,none⟩=some (.slice A n cap):=ze0 h.rng 0 rfl
theorem Rdr.c1 {w:World} {g:Nat} {A:Option Addr} {n cap:Nat} {at_ err:Int} (h:Rdr w g A n cap at_ err):w.cell? ⟨g,1,none⟩=some (.int .i64 at_):=ze0 h.rng 1 rfl
theorem Rdr.c2 {w:World} {g:Nat} {A:Option Addr} {n cap:Nat} {at_ err:Int} (h:Rdr w g A n cap at_ err):w.cell? ⟨g,2,none⟩=some (.int .i64 err):=ze0 h.rng 2 rfl
theorem Rdr.f {w:World} {g:Nat} {A:Option Addr} {n cap:Nat} {at_ err:Int} (h:Rdr w g A n cap at_ err) (k:Nat) (hk:k < 3):w.frozen? ⟨g,k,none⟩=false:=by
 have:=(h.th k hk).2
 rwa [Nat.zero_add] at this
theorem zbf {w w':World} (h:Below w.heap.size w w') (row:Option Nat):w.grownBy w' row:=⟨h.os,h.tape,h.output,h.size,fun k hk _=>h.block k hk⟩
theorem Rdr.set {w:World} {g:Nat} {A:Option Addr} {n cap:Nat} {at_ err:Int} (h:Rdr w g A n cap at_ err) (a e:Int):Rdr ((w.setCell ⟨g,1,none⟩ (.int .i64 a)).setCell ⟨g,2,none⟩ (.int .i64 e)) g A n cap a e:=by
 show Rdr (w.setCells g 1 [.int .i64 a,.int .i64 e]) g A n cap a e
 have h0:w.rangeAt g 0 [.slice A n cap]:=fun j v hv=>by
  match j,hv with
  |0,hv=>exact h.rng 0 v hv
  |j+1,hv=>cases hv
 have h1:=World.rangeAt_setCells_apart h0 g 1 [.int .i64 a,.int .i64 e] (.inr (.inl (Nat.le_refl _)))
 have h2:=World.rangeAt_setCells_same w g 1 [.int .i64 a,.int .i64 e] (fun j hj=>by
  have:=h.th (1+j) (by simp at hj;omega)
  rwa [Nat.zero_add] at this)
 refine ⟨fun j v hv => ?_,World.there_setCells h.th g 1 _⟩
 match j,hv with
 |0,hv=>exact h1 0 v hv
 |1,hv=>exact h2 0 v hv
 |2,hv=>exact h2 1 v hv
 |j+3,hv=>cases hv
theorem Rdr.kept1 {w:World} {g:Nat} {A:Option Addr} {n cap:Nat} {at_ err:Int} (h:Rdr w g A n cap at_ err) (a:Int):(w.setCell ⟨g,1,none⟩ (.int .i64 a)).cell? ⟨g,2,none⟩=some (.int .i64 err)∧(w.setCell ⟨g,1,none⟩ (.int .i64 a)).frozen? ⟨g,2,none⟩=false:=by
 have h2:w.rangeAt g 2 [.int .i64 err]:=fun j v hv=>by
  match j,hv with
  |0,hv=>exact h.rng 2 v hv
  |j+1,hv=>cases hv
 have h1:=World.rangeAt_setCells_apart h2 g 1 [.int .i64 a] (.inr (.inr (Nat.le_refl _)))
 have h3:=(World.there_setCells h.th g 1 [.int .i64 a]) 2 (by decide)
 exact ⟨h1 0 _ rfl,h3.2⟩
theorem Rdr.grown {w w':World} {g b:Nat} {A:Option Addr} {n cap:Nat} {at_ err:Int} (h:Rdr w g A n cap at_ err) (hg:w.grownBy w' (some b)) (hb:b≠g) (hgw:g < w.heap.size):Rdr w' g A n cap at_ err:=by
 have hk:∀j,w'.cell? ⟨g,j,none⟩=w.cell? ⟨g,j,none⟩:=fun j=>World.cell?_of_block (hg.block g hgw (fun e=>hb (by injection e with e;exact e.symm)))
 have hf:∀j,w'.frozen? ⟨g,j,none⟩=w.frozen? ⟨g,j,none⟩:=fun j=>World.frozen?_of_block (hg.block g hgw (fun e=>hb (by injection e with e;exact e.symm)))
 exact ⟨fun j v hv=>by rw [hk];exact h.rng j v hv,fun j hj=>by rw [hk,hf];exact h.th j hj⟩
set_option maxHeartbeats 4000000 in
theorem zqb (g : Nat) (A : Option Addr) (n cap B : Nat) (xs : List Int) (at_ err : Int) (w : World) (hr : Rdr w g A n cap at_ err) (hg : B ≤ g) (hgw : g < w.heap.size) (hx : Rd w B A (u8s xs)) (hn : xs.length = n) (hnc : n ≤ cap) (hcap : cap ≤ maxLen) (hb : Fm.By xs)
  (hat:err=0 → -9223372036854775808≤at_∧at_≤9223372036854775807) :
  Calls Tryz.prog 83 #[.pointer (some ⟨g,0,none⟩),.func (.func 84) #[] #[]] w fun e w'=>∃v,e = .returned v∧w'.ownsRow w.heap.size 2 1 v (Mm.zco [] (at_,err) (Wm.za1 xs)).1.length (i64s (Mm.zco [] (at_,err) (Wm.za1 xs)).1) ∧
   Rdr w' g A n cap (Mm.zco [] (at_,err) (Wm.za1 xs)).2.1 (Mm.zco [] (at_,err) (Wm.za1 xs)).2.2∧w.grownBy w' (some g):=by
 have k2:=hr.c2
 by_cases he:err=0
 case neg =>
  have HE:=Lib.hid (Mm.zeu (z:=([]:List Int)) (s:=(at_,err)) (r:=Wm.za1 xs) he)
  have hq:(err == 0)=false:=by rw [beq_eq_false_iff_ne];exact he
  have HR:=Lib.hid hr
  clear he hr
  go_enter Tryz.func83,Tryz.ntmps83
  go_wp2
  go_ret
  rw [HE.out]
  exact ⟨_,rfl,zcc,HR.out,zbf (Below.refl _ _) _⟩
 subst he
 have HE:=Lib.hid (Mm.zcf (z:=([]:List Int)) (s:=(at_,0)) (r:=Wm.za1 xs) rfl)
 dsimp only at HE
 obtain ⟨t0,t1⟩:=hat rfl
 have HR:=Lib.hid (fun (W:World) (h:Below w.heap.size w W)=>hr.below h hgw)
 have HC:=Lib.hid (fun (W:World) (h:Below w.heap.size w W)=>zkx A n cap B xs at_ W (hx.below (h.mono (by omega))) hn hnc hcap (Nat.le_trans (by omega) h.size) hb t0 t1)
 clear hr hx hat
 rw [HE.out]
 generalize Wm.za1 xs at_=q at *
 obtain ⟨q1,q2,q3⟩:=q
 dsimp only at *
 go_enter Tryz.func83,Tryz.ntmps83
 go_wp2_with fail
 refine zea (fun W=>Below w.heap.size w W) (fun j=>j == 22 || j == 25) (by kernel_rfl) ?_
 have hC:Below w.heap.size w w.drew:=(Below.refl _ _).drew
 refine zak (i:=0) (v := ?v0_105) (a' := ?a0_105) rfl (by kernel_rfl) (by kernel_rfl) (by kernel_rfl) (fun _ _ _ h=>h) (by first|exact .inl hC|exact .inr (by kernel_rfl)) (by kernel_rfl) ?w0_105 ?y0_105 ?f0_105 ?r0_105
 case w0_105=>kernel_rfl
 case y0_105=>(intro w hC;go_simp;try with_reducible rfl)
 case f0_105=>(go_simp;try with_reducible rfl)
 refine zak (i:=1) (v := ?v1_106) (a' := ?a1_106) rfl (by kernel_rfl) (by kernel_rfl) (by kernel_rfl) (fun _ _ _ h=>h) (by first|exact .inl hC|exact .inr (by kernel_rfl)) (by kernel_rfl) ?w1_106 ?y1_106 ?f1_106 ?r1_106
 case w1_106=>kernel_rfl
 case y1_106=>(intro w hC;go_simp;try with_reducible rfl)
 case f1_106=>(go_simp;try with_reducible rfl)
 refine zak (i:=2) (v := ?v2_107) (a' := ?a2_107) rfl (by kernel_rfl) (by kernel_rfl) (by kernel_rfl) (fun _ _ _ h=>h) (by first|exact .inl hC|exact .inr (by kernel_rfl)) (by kernel_rfl) ?w2_107 ?y2_107 ?f2_107 ?r2_107
 case w2_107=>kernel_rfl
 case y2_107=>(intro w hC;go_simp;try with_reducible rfl)
 case f2_107=>(go_simp;try with_reducible rfl)
 refine zak (i:=3) (v := ?v3_108) (a' := ?a3_108) rfl (by kernel_rfl) (by kernel_rfl) (by kernel_rfl) (fun _ _ _ h=>h) (by first|exact .inl hC|exact .inr (by kernel_rfl)) (by kernel_rfl) ?w3_108 ?y3_108 ?f3_108 ?r3_108
 case w3_108=>kernel_rfl
 case y3_108=>(intro w hC;go_simp;try with_reducible rfl)
 case f3_108=>(go_simp;try with_reducible rfl)
 refine zak (i:=4) (v := ?v4_109) (a' := ?a4_109) rfl (by kernel_rfl) (by kernel_rfl) (by kernel_rfl) (fun _ _ _ h=>h) (by first|exact .inl hC|exact .inr (by kernel_rfl)) (by kernel_rfl) ?w4_109 ?y4_109 ?f4_109 ?r4_109
 case w4_109=>kernel_rfl
 case y4_109=>(intro w hC;go_simp;try with_reducible rfl)
 case f4_109=>(go_simp;try with_reducible rfl)
 refine zak (i:=5) (v := ?v5_110) (a' := ?a5_110) rfl (by kernel_rfl) (by kernel_rfl) (by kernel_rfl) (fun _ _ _ h=>h) (by first|exact .inl hC|exact .inr (by kernel_rfl)) (by kernel_rfl) ?w5_110 ?y5_110 ?f5_110 ?r5_110
 case w5_110=>kernel_rfl
 case y5_110=>(intro w hC;go_simp;try with_reducible rfl)
 case f5_110=>(go_simp;try with_reducible rfl)
 refine zak (i:=6) (v := ?v6_111) (a' := ?a6_111) rfl (by kernel_rfl) (by kernel_rfl) (by kernel_rfl) (fun _ _ _ h=>h) (by first|exact .inl hC|exact .inr (by kernel_rfl)) (by kernel_rfl) ?w6_111 ?y6_111 ?f6_111 ?r6_111
 case w6_111=>kernel_rfl
 case y6_111=>(intro w hC;go_simp;try with_reducible rfl)
 case f6_111=>(go_simp;try with_reducible rfl)
 refine zak (i:=8) (v := ?v8_112) (a' := ?a8_112) rfl (by kernel_rfl) (by kernel_rfl) (by kernel_rfl) (fun _ _ _ h=>h) (by first|exact .inl hC|exact .inr (by kernel_rfl)) (by kernel_rfl) ?w8_112 ?y8_112 ?f8_112 ?r8_112
 case w8_112=>kernel_rfl
 case y8_112=>(intro w hC;go_simp;try with_reducible rfl)
 case f8_112=>(go_simp;try with_reducible rfl)
 refine zak (i:=9) (v := ?v9_113) (a' := ?a9_113) rfl (by kernel_rfl) (by kernel_rfl) (by kernel_rfl) (fun _ _ _ h=>h) (by first|exact .inl hC|exact .inr (by kernel_rfl)) (by kernel_rfl) ?w9_113 ?y9_113 ?f9_113 ?r9_113
 case w9_113=>kernel_rfl
 case y9_113=>(intro w hC;go_simp;try with_reducible rfl)
 case f9_113=>(go_simp;try with_reducible rfl)
 refine zak (i:=10) (v := ?v10_114) (a' := ?a10_114) rfl (by kernel_rfl) (by kernel_rfl) (by kernel_rfl) (fun _ _ _ h=>h) (by first|exact .inl hC|exact .inr (by kernel_rfl)) (by kernel_rfl) ?w10_114 ?y10_114 ?f10_114 ?r10_114
 case w10_114=>kernel_rfl
 case y10_114=>(intro w hC;go_simp;try with_reducible rfl)
 case f10_114=>(go_simp;try with_reducible rfl)
 refine zak (i:=11) (v := ?v11_115) (a' := ?a11_115) rfl (by kernel_rfl) (by kernel_rfl) (by kernel_rfl) (fun _ _ _ h=>h) (by first|exact .inl hC|exact .inr (by kernel_rfl)) (by kernel_rfl) ?w11_115 ?y11_115 ?f11_115 ?r11_115
 case w11_115=>kernel_rfl
 case y11_115=>(intro w hC;go_simp;try with_reducible rfl)
 case f11_115=>(go_simp;try with_reducible rfl)
 refine zbb (i:=7) (v := ?v7_116) (a' := ?a7_116) rfl (by kernel_rfl) (by kernel_rfl) (by kernel_rfl) (fun _ _ _ h=>h) hC (by kernel_rfl) ?w7_116 ?y7_116 ?f7_116 ?r7_116
 case w7_116=>kernel_rfl
 case y7_116=>(intro w hC;have h4:=(HR.out w hC).c0;go_simp;try with_reducible rfl)
 case f7_116=>(go_simp;try with_reducible rfl)
 refine zbb (i:=12) (v := ?v12_117) (a' := ?a12_117) rfl (by kernel_rfl) (by kernel_rfl) (by kernel_rfl) (fun _ _ _ h=>h) hC (by kernel_rfl) ?w12_117 ?y12_117 ?f12_117 ?r12_117
 case w12_117=>kernel_rfl
 case y12_117=>(intro w hC;have h4:=(HR.out w hC).c1;go_simp;try with_reducible rfl)
 case f12_117=>(go_simp;try with_reducible rfl)
 refine zbq (i:=13) rfl (by kernel_rfl) (by kernel_rfl) (fun K hK => ?_)
 go_simp
 refine (HC.out _ hC).mono ?_
 rintro e w2 ⟨v,rfl,hown,hb2⟩
 have hC2:Below w.heap.size w w2:=hC.trans (hb2.mono (by simp))
 have HO:=Lib.hid (zb3 hown hC.size)
 refine hK _ _ ⟨.inl hC2,?_⟩
 clear hK K hown hb2
 refine zak (i:=14) (v := ?v14_118) (a' := ?a14_118) rfl (by kernel_rfl) (by kernel_rfl) (by kernel_rfl) (fun _ _ _ h=>h) (by first|exact .inl hC2|exact .inr (by kernel_rfl)) (by kernel_rfl) ?w14_118 ?y14_118 ?f14_118 ?r14_118
 case w14_118=>kernel_rfl
 case y14_118=>(intro w hC;go_simp;try with_reducible rfl)
 case f14_118=>(go_simp;try with_reducible rfl)
 refine zak (i:=15) (v := ?v15_119) (a' := ?a15_119) rfl (by kernel_rfl) (by kernel_rfl) (by kernel_rfl) (fun _ _ _ h=>h) (by first|exact .inl hC2|exact .inr (by kernel_rfl)) (by kernel_rfl) ?w15_119 ?y15_119 ?f15_119 ?r15_119
 case w15_119=>kernel_rfl
 case y15_119=>(intro w hC;go_simp;try with_reducible rfl)
 case f15_119=>(go_simp;try with_reducible rfl)
 refine zak (i:=16) (v := ?v16_120) (a' := ?a16_120) rfl (by kernel_rfl) (by kernel_rfl) (by kernel_rfl) (fun _ _ _ h=>h) (by first|exact .inl hC2|exact .inr (by kernel_rfl)) (by kernel_rfl) ?w16_120 ?y16_120 ?f16_120 ?r16_120
 case w16_120=>kernel_rfl
 case y16_120=>(intro w hC;go_simp;try with_reducible rfl)
 case f16_120=>(go_simp;try with_reducible rfl)
 refine zak (i:=17) (v := ?v17_121) (a' := ?a17_121) rfl (by kernel_rfl) (by kernel_rfl) (by kernel_rfl) (fun _ _ _ h=>h) (by first|exact .inl hC2|exact .inr (by kernel_rfl)) (by kernel_rfl) ?w17_121 ?y17_121 ?f17_121 ?r17_121
 case w17_121=>kernel_rfl
 case y17_121=>(intro w hC;go_simp;try with_reducible rfl)
 case f17_121=>(go_simp;try with_reducible rfl)
 refine zak (i:=18) (v := ?v18_122) (a' := ?a18_122) rfl (by kernel_rfl) (by kernel_rfl) (by kernel_rfl) (fun _ _ _ h=>h) (by first|exact .inl hC2|exact .inr (by kernel_rfl)) (by kernel_rfl) ?w18_122 ?y18_122 ?f18_122 ?r18_122
 case w18_122=>kernel_rfl
 case y18_122=>(intro w hC;go_simp;try with_reducible rfl)
 case f18_122=>(go_simp;try with_reducible rfl)
 refine zak (i:=19) (v := ?v19_123) (a' := ?a19_123) rfl (by kernel_rfl) (by kernel_rfl) (by kernel_rfl) (fun _ _ _ h=>h) (by first|exact .inl hC2|exact .inr (by kernel_rfl)) (by kernel_rfl) ?w19_123 ?y19_123 ?f19_123 ?r19_123
 case w19_123=>kernel_rfl
 case y19_123=>(intro w hC;go_simp;try with_reducible rfl)
 case f19_123=>(go_simp;try with_reducible rfl)
 refine zak (i:=20) (v := ?v20_124) (a' := ?a20_124) rfl (by kernel_rfl) (by kernel_rfl) (by kernel_rfl) (fun _ _ _ h=>h) (by first|exact .inl hC2|exact .inr (by kernel_rfl)) (by kernel_rfl) ?w20_124 ?y20_124 ?f20_124 ?r20_124
 case w20_124=>kernel_rfl
 case y20_124=>(intro w hC;go_simp;try with_reducible rfl)
 case f20_124=>(go_simp;try with_reducible rfl)
 refine zak (i:=21) (v := ?v21_125) (a' := ?a21_125) rfl (by kernel_rfl) (by kernel_rfl) (by kernel_rfl) (fun _ _ _ h=>h) (by first|exact .inl hC2|exact .inr (by kernel_rfl)) (by kernel_rfl) ?w21_125 ?y21_125 ?f21_125 ?r21_125
 case w21_125=>kernel_rfl
 case y21_125=>(intro w hC;go_simp;try with_reducible rfl)
 case f21_125=>(go_simp;try with_reducible rfl)
 have HR2:=Lib.hid (HR.out w2 hC2)
 have q1':=HR2.out.c1
 have f1':=HR2.out.f 1 (by decide)
 have q2':=HR2.out.kept1 q2
 obtain ⟨q2a,f2a⟩:=q2'
 refine zbq (i:=22) rfl (by kernel_rfl) (by kernel_rfl) (fun K hK => ?_)
 go_simp
 refine hK _ _ ⟨.inr (by kernel_rfl),?_⟩
 clear hK K
 refine zak (i:=23) (v := ?v23_126) (a' := ?a23_126) rfl (by kernel_rfl) (by kernel_rfl) (by kernel_rfl) (fun _ _ _ h=>h) (by first|exact .inl hC2|exact .inr (by kernel_rfl)) (by kernel_rfl) ?w23_126 ?y23_126 ?f23_126 ?r23_126
 case w23_126=>kernel_rfl
 case y23_126=>(intro w hC;go_simp;try with_reducible rfl)
 case f23_126=>(go_simp;try with_reducible rfl)
 refine zak (i:=24) (v := ?v24_127) (a' := ?a24_127) rfl (by kernel_rfl) (by kernel_rfl) (by kernel_rfl) (fun _ _ _ h=>h) (by first|exact .inl hC2|exact .inr (by kernel_rfl)) (by kernel_rfl) ?w24_127 ?y24_127 ?f24_127 ?r24_127
 case w24_127=>kernel_rfl
 case y24_127=>(intro w hC;go_simp;try with_reducible rfl)
 case f24_127=>(go_simp;try with_reducible rfl)
 refine zbq (i:=25) rfl (by kernel_rfl) (by kernel_rfl) (fun K hK => ?_)
 go_simp
 refine hK _ _ ⟨.inr (by kernel_rfl),?_⟩
 clear hK K q1' f1' q2a f2a
 refine zdq (by kernel_rfl) ?_
 have hgr:Hid (w2.grownBy ((w2.setCell ⟨g,1,none⟩ (.int .i64 q2)).setCell ⟨g,2,none⟩ (.int .i64 q3)) (some g)):=(zbj g 1 _ w2).trans (zbj g 2 _ _)
 have hRS:=Lib.hid (HR2.out.set q2 q3)
 generalize (w2.setCell ⟨g,1,none⟩ (.int .i64 q2)).setCell ⟨g,2,none⟩ (.int .i64 q3)=w3 at *
 go_wp2
 go_ret
 exact ⟨_,rfl,zdo HO.out hgr.out hgw,hRS.out,(zbf hC2 _).trans hgr.out⟩
set_option maxHeartbeats 4000000 in
theorem zk6 (g : Nat) (A : Option Addr) (n cap B : Nat) (xs : List Int) (at_ err : Int) (w : World) (hr : Rdr w g A n cap at_ err) (hg : B ≤ g) (hgw : g < w.heap.size) (hx : Rd w B A (u8s xs)) (hn : xs.length = n) (hnc : n ≤ cap) (hcap : cap ≤ maxLen) (hb : Fm.By xs)
  (hat:err=0 → -9223372036854775808≤at_∧at_≤9223372036854775807) :
  Calls Tryz.prog 85 #[.pointer (some ⟨g,0,none⟩),.func (.func 86) #[] #[]] w fun e w'=>∃v,e = .returned v∧w'.ownsRow w.heap.size 5 1 v (Mm.zco [] (at_,err) (Wm.zbl xs)).1.length (u8s (Mm.zco [] (at_,err) (Wm.zbl xs)).1) ∧
   Rdr w' g A n cap (Mm.zco [] (at_,err) (Wm.zbl xs)).2.1 (Mm.zco [] (at_,err) (Wm.zbl xs)).2.2∧w.grownBy w' (some g):=by
 have k2:=hr.c2
 by_cases he:err=0
 case neg =>
  have HE:=Lib.hid (Mm.zeu (z:=([]:List Int)) (s:=(at_,err)) (r:=Wm.zbl xs) he)
  have hq:(err == 0)=false:=by rw [beq_eq_false_iff_ne];exact he
  have HR:=Lib.hid hr
  clear he hr
  go_enter Tryz.func85,Tryz.ntmps85
  go_wp2
  go_ret
  rw [HE.out]
  exact ⟨_,rfl,zcc,HR.out,zbf (Below.refl _ _) _⟩
 subst he
 have HE:=Lib.hid (Mm.zcf (z:=([]:List Int)) (s:=(at_,0)) (r:=Wm.zbl xs) rfl)
 dsimp only at HE
 obtain ⟨t0,t1⟩:=hat rfl
 have HR:=Lib.hid (fun (W:World) (h:Below w.heap.size w W)=>hr.below h hgw)
 have HC:=Lib.hid (fun (W:World) (h:Below w.heap.size w W)=>zoj A n cap B xs at_ W (hx.below (h.mono (by omega))) hn hnc hcap (Nat.le_trans (by omega) h.size) hb t0 t1)
 clear hr hx hat
 rw [HE.out]
 generalize Wm.zbl xs at_=q at *
 obtain ⟨q1,q2,q3⟩:=q
 dsimp only at *
 go_enter Tryz.func85,Tryz.ntmps85
 go_wp2_with fail
 refine zea (fun W=>Below w.heap.size w W) (fun j=>j == 22 || j == 25) (by kernel_rfl) ?_
 have hC:Below w.heap.size w w.drew:=(Below.refl _ _).drew
 refine zak (i:=0) (v := ?v0_128) (a' := ?a0_128) rfl (by kernel_rfl) (by kernel_rfl) (by kernel_rfl) (fun _ _ _ h=>h) (by first|exact .inl hC|exact .inr (by kernel_rfl)) (by kernel_rfl) ?w0_128 ?y0_128 ?f0_128 ?r0_128
 case w0_128=>kernel_rfl
 case y0_128=>(intro w hC;go_simp;try with_reducible rfl)
 case f0_128=>(go_simp;try with_reducible rfl)
 refine zak (i:=1) (v := ?v1_129) (a' := ?a1_129) rfl (by kernel_rfl) (by kernel_rfl) (by kernel_rfl) (fun _ _ _ h=>h) (by first|exact .inl hC|exact .inr (by kernel_rfl)) (by kernel_rfl) ?w1_129 ?y1_129 ?f1_129 ?r1_129
 case w1_129=>kernel_rfl
 case y1_129=>(intro w hC;go_simp;try with_reducible rfl)
 case f1_129=>(go_simp;try with_reducible rfl)
 refine zak (i:=2) (v := ?v2_130) (a' := ?a2_130) rfl (by kernel_rfl) (by kernel_rfl) (by kernel_rfl) (fun _ _ _ h=>h) (by first|exact .inl hC|exact .inr (by kernel_rfl)) (by kernel_rfl) ?w2_130 ?y2_130 ?f2_130 ?r2_130
 case w2_130=>kernel_rfl
 case y2_130=>(intro w hC;go_simp;try with_reducible rfl)
 case f2_130=>(go_simp;try with_reducible rfl)
 refine zak (i:=3) (v := ?v3_131) (a' := ?a3_131) rfl (by kernel_rfl) (by kernel_rfl) (by kernel_rfl) (fun _ _ _ h=>h) (by first|exact .inl hC|exact .inr (by kernel_rfl)) (by kernel_rfl) ?w3_131 ?y3_131 ?f3_131 ?r3_131
 case w3_131=>kernel_rfl
 case y3_131=>(intro w hC;go_simp;try with_reducible rfl)
 case f3_131=>(go_simp;try with_reducible rfl)
 refine zak (i:=4) (v := ?v4_132) (a' := ?a4_132) rfl (by kernel_rfl) (by kernel_rfl) (by kernel_rfl) (fun _ _ _ h=>h) (by first|exact .inl hC|exact .inr (by kernel_rfl)) (by kernel_rfl) ?w4_132 ?y4_132 ?f4_132 ?r4_132
 case w4_132=>kernel_rfl
 case y4_132=>(intro w hC;go_simp;try with_reducible rfl)
 case f4_132=>(go_simp;try with_reducible rfl)
 refine zak (i:=5) (v := ?v5_133) (a' := ?a5_133) rfl (by kernel_rfl) (by kernel_rfl) (by kernel_rfl) (fun _ _ _ h=>h) (by first|exact .inl hC|exact .inr (by kernel_rfl)) (by kernel_rfl) ?w5_133 ?y5_133 ?f5_133 ?r5_133
 case w5_133=>kernel_rfl
 case y5_133=>(intro w hC;go_simp;try with_reducible rfl)
 case f5_133=>(go_simp;try with_reducible rfl)
 refine zak (i:=6) (v := ?v6_134) (a' := ?a6_134) rfl (by kernel_rfl) (by kernel_rfl) (by kernel_rfl) (fun _ _ _ h=>h) (by first|exact .inl hC|exact .inr (by kernel_rfl)) (by kernel_rfl) ?w6_134 ?y6_134 ?f6_134 ?r6_134
 case w6_134=>kernel_rfl
 case y6_134=>(intro w hC;go_simp;try with_reducible rfl)
 case f6_134=>(go_simp;try with_reducible rfl)
 refine zak (i:=8) (v := ?v8_135) (a' := ?a8_135) rfl (by kernel_rfl) (by kernel_rfl) (by kernel_rfl) (fun _ _ _ h=>h) (by first|exact .inl hC|exact .inr (by kernel_rfl)) (by kernel_rfl) ?w8_135 ?y8_135 ?f8_135 ?r8_135
 case w8_135=>kernel_rfl
 case y8_135=>(intro w hC;go_simp;try with_reducible rfl)
 case f8_135=>(go_simp;try with_reducible rfl)
 refine zak (i:=9) (v := ?v9_136) (a' := ?a9_136) rfl (by kernel_rfl) (by kernel_rfl) (by kernel_rfl) (fun _ _ _ h=>h) (by first|exact .inl hC|exact .inr (by kernel_rfl)) (by kernel_rfl) ?w9_136 ?y9_136 ?f9_136 ?r9_136
 case w9_136=>kernel_rfl
 case y9_136=>(intro w hC;go_simp;try with_reducible rfl)
 case f9_136=>(go_simp;try with_reducible rfl)
 refine zak (i:=10) (v := ?v10_137) (a' := ?a10_137) rfl (by kernel_rfl) (by kernel_rfl) (by kernel_rfl) (fun _ _ _ h=>h) (by first|exact .inl hC|exact .inr (by kernel_rfl)) (by kernel_rfl) ?w10_137 ?y10_137 ?f10_137 ?r10_137
 case w10_137=>kernel_rfl
 case y10_137=>(intro w hC;go_simp;try with_reducible rfl)
 case f10_137=>(go_simp;try with_reducible rfl)
 refine zak (i:=11) (v := ?v11_138) (a' := ?a11_138) rfl (by kernel_rfl) (by kernel_rfl) (by kernel_rfl) (fun _ _ _ h=>h) (by first|exact .inl hC|exact .inr (by kernel_rfl)) (by kernel_rfl) ?w11_138 ?y11_138 ?f11_138 ?r11_138
 case w11_138=>kernel_rfl
 case y11_138=>(intro w hC;go_simp;try with_reducible rfl)
 case f11_138=>(go_simp;try with_reducible rfl)
 refine zbb (i:=7) (v := ?v7_139) (a' := ?a7_139) rfl (by kernel_rfl) (by kernel_rfl) (by kernel_rfl) (fun _ _ _ h=>h) hC (by kernel_rfl) ?w7_139 ?y7_139 ?f7_139 ?r7_139
 case w7_139=>kernel_rfl
 case y7_139=>(intro w hC;have h4:=(HR.out w hC).c0;go_simp;try with_reducible rfl)
 case f7_139=>(go_simp;try with_reducible rfl)
 refine zbb (i:=12) (v := ?v12_140) (a' := ?a12_140) rfl (by kernel_rfl) (by kernel_rfl) (by kernel_rfl) (fun _ _ _ h=>h) hC (by kernel_rfl) ?w12_140 ?y12_140 ?f12_140 ?r12_140
 case w12_140=>kernel_rfl
 case y12_140=>(intro w hC;have h4:=(HR.out w hC).c1;go_simp;try with_reducible rfl)
 case f12_140=>(go_simp;try with_reducible rfl)
 refine zbq (i:=13) rfl (by kernel_rfl) (by kernel_rfl) (fun K hK => ?_)
 go_simp
 refine (HC.out _ hC).mono ?_
 rintro e w2 ⟨v,rfl,hown,hb2⟩
 have hC2:Below w.heap.size w w2:=hC.trans (hb2.mono (by simp))
 have HO:=Lib.hid (zb3 hown hC.size)
 refine hK _ _ ⟨.inl hC2,?_⟩
 clear hK K hown hb2
 refine zak (i:=14) (v := ?v14_141) (a' := ?a14_141) rfl (by kernel_rfl) (by kernel_rfl) (by kernel_rfl) (fun _ _ _ h=>h) (by first|exact .inl hC2|exact .inr (by kernel_rfl)) (by kernel_rfl) ?w14_141 ?y14_141 ?f14_141 ?r14_141
 case w14_141=>kernel_rfl
 case y14_141=>(intro w hC;go_simp;try with_reducible rfl)
 case f14_141=>(go_simp;try with_reducible rfl)
 refine zak (i:=15) (v := ?v15_142) (a' := ?a15_142) rfl (by kernel_rfl) (by kernel_rfl) (by kernel_rfl) (fun _ _ _ h=>h) (by first|exact .inl hC2|exact .inr (by kernel_rfl)) (by kernel_rfl) ?w15_142 ?y15_142 ?f15_142 ?r15_142
 case w15_142=>kernel_rfl
 case y15_142=>(intro w hC;go_simp;try with_reducible rfl)
 case f15_142=>(go_simp;try with_reducible rfl)
 refine zak (i:=16) (v := ?v16_143) (a' := ?a16_143) rfl (by kernel_rfl) (by kernel_rfl) (by kernel_rfl) (fun _ _ _ h=>h) (by first|exact .inl hC2|exact .inr (by kernel_rfl)) (by kernel_rfl) ?w16_143 ?y16_143 ?f16_143 ?r16_143
 case w16_143=>kernel_rfl
 case y16_143=>(intro w hC;go_simp;try with_reducible rfl)
 case f16_143=>(go_simp;try with_reducible rfl)
 refine zak (i:=17) (v := ?v17_144) (a' := ?a17_144) rfl (by kernel_rfl) (by kernel_rfl) (by kernel_rfl) (fun _ _ _ h=>h) (by first|exact .inl hC2|exact .inr (by kernel_rfl)) (by kernel_rfl) ?w17_144 ?y17_144 ?f17_144 ?r17_144
 case w17_144=>kernel_rfl
 case y17_144=>(intro w hC;go_simp;try with_reducible rfl)
 case f17_144=>(go_simp;try with_reducible rfl)
 refine zak (i:=18) (v := ?v18_145) (a' := ?a18_145) rfl (by kernel_rfl) (by kernel_rfl) (by kernel_rfl) (fun _ _ _ h=>h) (by first|exact .inl hC2|exact .inr (by kernel_rfl)) (by kernel_rfl) ?w18_145 ?y18_145 ?f18_145 ?r18_145
 case w18_145=>kernel_rfl
 case y18_145=>(intro w hC;go_simp;try with_reducible rfl)
 case f18_145=>(go_simp;try with_reducible rfl)
 refine zak (i:=19) (v := ?v19_146) (a' := ?a19_146) rfl (by kernel_rfl) (by kernel_rfl) (by kernel_rfl) (fun _ _ _ h=>h) (by first|exact .inl hC2|exact .inr (by kernel_rfl)) (by kernel_rfl) ?w19_146 ?y19_146 ?f19_146 ?r19_146
 case w19_146=>kernel_rfl
 case y19_146=>(intro w hC;go_simp;try with_reducible rfl)
 case f19_146=>(go_simp;try with_reducible rfl)
 refine zak (i:=20) (v := ?v20_147) (a' := ?a20_147) rfl (by kernel_rfl) (by kernel_rfl) (by kernel_rfl) (fun _ _ _ h=>h) (by first|exact .inl hC2|exact .inr (by kernel_rfl)) (by kernel_rfl) ?w20_147 ?y20_147 ?f20_147 ?r20_147
 case w20_147=>kernel_rfl
 case y20_147=>(intro w hC;go_simp;try with_reducible rfl)
 case f20_147=>(go_simp;try with_reducible rfl)
 refine zak (i:=21) (v := ?v21_148) (a' := ?a21_148) rfl (by kernel_rfl) (by kernel_rfl) (by kernel_rfl) (fun _ _ _ h=>h) (by first|exact .inl hC2|exact .inr (by kernel_rfl)) (by kernel_rfl) ?w21_148 ?y21_148 ?f21_148 ?r21_148
 case w21_148=>kernel_rfl
 case y21_148=>(intro w hC;go_simp;try with_reducible rfl)
 case f21_148=>(go_simp;try with_reducible rfl)
 have HR2:=Lib.hid (HR.out w2 hC2)
 have q1':=HR2.out.c1
 have f1':=HR2.out.f 1 (by decide)
 have q2':=HR2.out.kept1 q2
 obtain ⟨q2a,f2a⟩:=q2'
 refine zbq (i:=22) rfl (by kernel_rfl) (by kernel_rfl) (fun K hK => ?_)
 go_simp
 refine hK _ _ ⟨.inr (by kernel_rfl),?_⟩
 clear hK K
 refine zak (i:=23) (v := ?v23_149) (a' := ?a23_149) rfl (by kernel_rfl) (by kernel_rfl) (by kernel_rfl) (fun _ _ _ h=>h) (by first|exact .inl hC2|exact .inr (by kernel_rfl)) (by kernel_rfl) ?w23_149 ?y23_149 ?f23_149 ?r23_149
 case w23_149=>kernel_rfl
 case y23_149=>(intro w hC;go_simp;try with_reducible rfl)
 case f23_149=>(go_simp;try with_reducible rfl)
 refine zak (i:=24) (v := ?v24_150) (a' := ?a24_150) rfl (by kernel_rfl) (by kernel_rfl) (by kernel_rfl) (fun _ _ _ h=>h) (by first|exact .inl hC2|exact .inr (by kernel_rfl)) (by kernel_rfl) ?w24_150 ?y24_150 ?f24_150 ?r24_150
 case w24_150=>kernel_rfl
 case y24_150=>(intro w hC;go_simp;try with_reducible rfl)
 case f24_150=>(go_simp;try with_reducible rfl)
 refine zbq (i:=25) rfl (by kernel_rfl) (by kernel_rfl) (fun K hK => ?_)
 go_simp
 refine hK _ _ ⟨.inr (by kernel_rfl),?_⟩
 clear hK K q1' f1' q2a f2a
 refine zdq (by kernel_rfl) ?_
 have hgr:Hid (w2.grownBy ((w2.setCell ⟨g,1,none⟩ (.int .i64 q2)).setCell ⟨g,2,none⟩ (.int .i64 q3)) (some g)):=(zbj g 1 _ w2).trans (zbj g 2 _ _)
 have hRS:=Lib.hid (HR2.out.set q2 q3)
 generalize (w2.setCell ⟨g,1,none⟩ (.int .i64 q2)).setCell ⟨g,2,none⟩ (.int .i64 q3)=w3 at *
 go_wp2
 go_ret
 exact ⟨_,rfl,zdo HO.out hgr.out hgw,hRS.out,(zbf hC2 _).trans hgr.out⟩
end Go.Proofs.YtponpgcpmlcdpaaGreatDoor
namespace Go.Proofs.YtponpgcpmlcdpaaGreatDoor
open Go.RowKit Go.Shelf
theorem zfg {P : Program} {op : Oper} {a : Act} {w : World} {K : Act → World → Prop} {Q : Exit → Act → World → Prop} (ty : TypeId) (x y : Operand) (ho : op.op = .store ty x y)
  (b o:Nat) (cells:Array Value) (hx:a.eval x = .pointer (some ⟨b,o,none⟩)) (hy:a.eval y = .agg cells) (ht:w.there b o cells.size) (hi:(P.info? ty).map (·.size)=some cells.size) (h1:cells.all (·.oneCell')=true)
  (h:K (a.put op.dst undef) (w.setCells b o cells.toList)):op.wp P a w K Q:=wp_store_mid ty x y ho b o cells hx hy ht hi h1 h
theorem zcb {w w':World} {b b' o:Nat} {cs:List Value} (h:w.rangeAt b o cs) (hg:w.grownBy w' (some b')) (hb:b'≠b) (hlt:b < w.heap.size):w'.rangeAt b o cs:=fun j v hv=>by
 rw [World.cell?_of_block (hg.block b hlt (fun e=>hb (by injection e with e;exact e.symm)))];exact h j v hv
theorem zb0 {w w':World} {b b' o n:Nat} (h:w.there b o n) (hg:w.grownBy w' (some b')) (hb:b'≠b) (hlt:b < w.heap.size):w'.there b o n:=fun j hj=>by
 rw [World.cell?_of_block (hg.block b hlt (fun e=>hb (by injection e with e;exact e.symm))),World.frozen?_of_block (hg.block b hlt (fun e=>hb (by injection e with e;exact e.symm)))];exact h j hj
theorem zgy {w w' w'':World} {row:Option Nat} {b:Nat} (h:w.grownBy w' row) (hg:w'.grownBy w'' (some b)) (hb:w.heap.size≤b):w.grownBy w'' row :=
 ⟨hg.os.trans h.os,hg.tape.trans h.tape,hg.output.trans h.output,Nat.le_trans h.size hg.size,fun k hk hne=>(hg.block k (Nat.lt_of_lt_of_le hk h.size) (fun e=>by injection e with e;omega)).trans (h.block k hk hne)⟩
set_option maxHeartbeats 4000000 in
theorem zqa (g : Nat) (A : Option Addr) (n cap B : Nat) (xs : List Int) (at_ err : Int) (w : World) (hr : Rdr w g A n cap at_ err) (hg : B ≤ g) (hgw : g < w.heap.size) (hx : Rd w B A (u8s xs)) (hn : xs.length = n) (hnc : n ≤ cap) (hcap : cap ≤ maxLen) (hb : Fm.By xs)
  (hat:err=0 → -9223372036854775808≤at_∧at_≤9223372036854775807) :
  Calls Tryz.prog 78 #[.pointer (some ⟨g,0,none⟩),.func (.func 79) #[] #[]] w fun e w'=>e = .returned (.agg (i64s (Mm.zco Mm.zeros (at_,err) (Mm.rN xs)).1).toArray) ∧
   Rdr w' g A n cap (Mm.zco Mm.zeros (at_,err) (Mm.rN xs)).2.1 (Mm.zco Mm.zeros (at_,err) (Mm.rN xs)).2.2∧w.grownBy w' (some g):=by
 have hz1:(w.alloc (.cells (i64s Mm.zeros).toArray 126)).heap.size=w.heap.size+1:=World.size_alloc ..
 have hz2:((w.alloc (.cells (i64s Mm.zeros).toArray 126)).alloc (.cells (i64s Mm.zeros).toArray 126)).heap.size=w.heap.size+2:=by rw [World.size_alloc,hz1]
 have hb2:Below w.heap.size w ((w.alloc (.cells (i64s Mm.zeros).toArray 126)).alloc (.cells (i64s Mm.zeros).toArray 126)):=((Below.refl _ w).alloc (Nat.le_refl _) _).alloc (by omega) _
 have ht4:((w.alloc (.cells (i64s Mm.zeros).toArray 126)).alloc (.cells (i64s Mm.zeros).toArray 126)).there w.heap.size 0 10:=World.there_alloc (zby w (i64s Mm.zeros) 126) _
 have ht5:=zby (w.alloc (.cells (i64s Mm.zeros).toArray 126)) (i64s Mm.zeros) 126
 have hr5:((w.alloc (.cells (i64s Mm.zeros).toArray 126)).alloc (.cells (i64s Mm.zeros).toArray 126)).rangeAt (w.heap.size+1) 0 (i64s Mm.zeros):=by
  have:=zct (w.alloc (.cells (i64s Mm.zeros).toArray 126)) (i64s Mm.zeros) 126
  rwa [hz1] at this
 rw [hz1] at ht5
 have HR0:=hr.below hb2 hgw
 have HX0:=hx.below (hb2.mono (by omega))
 have hB2:=Lib.hid hb2
 have HZ2:=Lib.hid hz2
 have HT4:=Lib.hid ht4
 have HT5:=Lib.hid ht5
 have HR5:=Lib.hid hr5
 have k2:=HR0.c2
 rw [show (i64s Mm.zeros).toArray = #[.int .i64 0,.int .i64 0,.int .i64 0,.int .i64 0,.int .i64 0,.int .i64 0,.int .i64 0,.int .i64 0,.int .i64 0,.int .i64 0] from rfl] at k2
 clear hb2 hz1 hz2 ht4 ht5 hr5 hr hx
 by_cases he:err=0
 case neg =>
  have HE:=Lib.hid (Mm.zeu (z:=Mm.zeros) (s:=(at_,err)) (r:=Mm.rN xs) he)
  have hq:(err == 0)=false:=by rw [beq_eq_false_iff_ne];exact he
  have HR:=Lib.hid HR0
  have hgr:Hid (((w.alloc (.cells (i64s Mm.zeros).toArray 126)).alloc (.cells (i64s Mm.zeros).toArray 126)).grownBy (((w.alloc (.cells (i64s Mm.zeros).toArray 126)).alloc (.cells (i64s Mm.zeros).toArray 126)).setCells w.heap.size 0 (i64s Mm.zeros)) (some w.heap.size)):=za6 w.heap.size (i64s Mm.zeros) 0 _
  have hrng:=Lib.hid (World.rangeAt_setCells_same ((w.alloc (.cells (i64s Mm.zeros).toArray 126)).alloc (.cells (i64s Mm.zeros).toArray 126)) w.heap.size 0 (i64s Mm.zeros) HT4.out)
  clear he HR0
  go_enter Tryz.func78,Tryz.ntmps78
  go_wp2_with (first|(refine wpList_load_mid rfl 126 _ rfl (w.heap.size+1) 0 rfl (i64s Mm.zeros) _ HR5.out Tryz.underlying126 rfl zbi ?_)|(refine wpList_store_mid rfl 126 _ _ rfl w.heap.size 0 (i64s Mm.zeros).toArray rfl rfl HT4.out zbi (zdk _) ?_))
  refine bodyPost_ret (zep rfl _ _ w.heap.size (i64s Mm.zeros) _ rfl hrng.out Tryz.underlying126 rfl zbi) rfl ?_
  rw [HE.out]
  exact ⟨rfl,HR.out.grown hgr.out (by omega) (by rw [HZ2.out];omega),zbf (below_grown hB2.out hgr.out (Nat.le_refl _) hB2.out.size) _⟩
 subst he
 have HE:=Lib.hid (Mm.zcf (z:=Mm.zeros) (s:=(at_,0)) (r:=Mm.rN xs) rfl)
 dsimp only at HE
 obtain ⟨t0,t1⟩:=hat rfl
 have HR:=Lib.hid (fun (W:World) (h:Below (w.heap.size+2) ((w.alloc (.cells (i64s Mm.zeros).toArray 126)).alloc (.cells (i64s Mm.zeros).toArray 126)) W)=>HR0.below h (by omega))
 have HC:=Lib.hid (fun (W:World) (h:Below (w.heap.size+2) ((w.alloc (.cells (i64s Mm.zeros).toArray 126)).alloc (.cells (i64s Mm.zeros).toArray 126)) W)=>zke A n cap B xs at_ W (HX0.below (h.mono (by omega))) hn hnc hcap (Nat.le_trans (by rw [HZ2.out];omega) h.size) hb t0 t1)
 have hln:=Mm.rN_len xs at_
 clear hat HR0 HX0
 rw [HE.out]
 generalize Mm.rN xs at_=q at *
 obtain ⟨q1,q2,q3⟩:=q
 dsimp only at *
 have hqs:Hid ((i64s q1).toArray.size=10):=by rw [List.size_toArray,zed,hln];exact Lib.hid rfl
 have hql:Hid ((i64s q1).length=10):=by rw [zed,hln];exact Lib.hid rfl
 have hqi:Hid ((Tryz.prog.info? 126).map (·.size)=some (i64s q1).length):=by rw [hql.out];exact Lib.hid zbi
 have hqi2:Hid ((Tryz.prog.info? 126).map (·.size)=some (i64s q1).toArray.size):=by rw [hqs.out];exact Lib.hid zbi
 clear hln
 go_enter Tryz.func78,Tryz.ntmps78
 go_wp2_with fail
 refine zea (fun W=>Below (w.heap.size+2) ((w.alloc (.cells (i64s Mm.zeros).toArray 126)).alloc (.cells (i64s Mm.zeros).toArray 126)) W) (fun j=>j == 18 || j == 22 || j == 25) (by kernel_rfl) ?_
 have hC:Below (w.heap.size+2) ((w.alloc (.cells (i64s Mm.zeros).toArray 126)).alloc (.cells (i64s Mm.zeros).toArray 126)) ((w.alloc (.cells (i64s Mm.zeros).toArray 126)).alloc (.cells (i64s Mm.zeros).toArray 126)).drew:=(Below.refl _ _).drew
 refine zak (i:=0) (v := ?v0_151) (a' := ?a0_151) rfl (by kernel_rfl) (by kernel_rfl) (by kernel_rfl) (fun _ _ _ h=>h) (by first|exact .inl hC|exact .inr (by kernel_rfl)) (by kernel_rfl) ?w0_151 ?y0_151 ?f0_151 ?r0_151
 case w0_151=>kernel_rfl
 case y0_151=>(intro w hC;go_simp;try with_reducible rfl)
 case f0_151=>(go_simp;try with_reducible rfl)
 refine zak (i:=1) (v := ?v1_152) (a' := ?a1_152) rfl (by kernel_rfl) (by kernel_rfl) (by kernel_rfl) (fun _ _ _ h=>h) (by first|exact .inl hC|exact .inr (by kernel_rfl)) (by kernel_rfl) ?w1_152 ?y1_152 ?f1_152 ?r1_152
 case w1_152=>kernel_rfl
 case y1_152=>(intro w hC;go_simp;try with_reducible rfl)
 case f1_152=>(go_simp;try with_reducible rfl)
 refine zak (i:=2) (v := ?v2_153) (a' := ?a2_153) rfl (by kernel_rfl) (by kernel_rfl) (by kernel_rfl) (fun _ _ _ h=>h) (by first|exact .inl hC|exact .inr (by kernel_rfl)) (by kernel_rfl) ?w2_153 ?y2_153 ?f2_153 ?r2_153
 case w2_153=>kernel_rfl
 case y2_153=>(intro w hC;go_simp;try with_reducible rfl)
 case f2_153=>(go_simp;try with_reducible rfl)
 refine zak (i:=3) (v := ?v3_154) (a' := ?a3_154) rfl (by kernel_rfl) (by kernel_rfl) (by kernel_rfl) (fun _ _ _ h=>h) (by first|exact .inl hC|exact .inr (by kernel_rfl)) (by kernel_rfl) ?w3_154 ?y3_154 ?f3_154 ?r3_154
 case w3_154=>kernel_rfl
 case y3_154=>(intro w hC;go_simp;try with_reducible rfl)
 case f3_154=>(go_simp;try with_reducible rfl)
 refine zak (i:=4) (v := ?v4_155) (a' := ?a4_155) rfl (by kernel_rfl) (by kernel_rfl) (by kernel_rfl) (fun _ _ _ h=>h) (by first|exact .inl hC|exact .inr (by kernel_rfl)) (by kernel_rfl) ?w4_155 ?y4_155 ?f4_155 ?r4_155
 case w4_155=>kernel_rfl
 case y4_155=>(intro w hC;go_simp;try with_reducible rfl)
 case f4_155=>(go_simp;try with_reducible rfl)
 refine zak (i:=5) (v := ?v5_156) (a' := ?a5_156) rfl (by kernel_rfl) (by kernel_rfl) (by kernel_rfl) (fun _ _ _ h=>h) (by first|exact .inl hC|exact .inr (by kernel_rfl)) (by kernel_rfl) ?w5_156 ?y5_156 ?f5_156 ?r5_156
 case w5_156=>kernel_rfl
 case y5_156=>(intro w hC;go_simp;try with_reducible rfl)
 case f5_156=>(go_simp;try with_reducible rfl)
 refine zak (i:=6) (v := ?v6_157) (a' := ?a6_157) rfl (by kernel_rfl) (by kernel_rfl) (by kernel_rfl) (fun _ _ _ h=>h) (by first|exact .inl hC|exact .inr (by kernel_rfl)) (by kernel_rfl) ?w6_157 ?y6_157 ?f6_157 ?r6_157
 case w6_157=>kernel_rfl
 case y6_157=>(intro w hC;go_simp;try with_reducible rfl)
 case f6_157=>(go_simp;try with_reducible rfl)
 refine zak (i:=8) (v := ?v8_158) (a' := ?a8_158) rfl (by kernel_rfl) (by kernel_rfl) (by kernel_rfl) (fun _ _ _ h=>h) (by first|exact .inl hC|exact .inr (by kernel_rfl)) (by kernel_rfl) ?w8_158 ?y8_158 ?f8_158 ?r8_158
 case w8_158=>kernel_rfl
 case y8_158=>(intro w hC;go_simp;try with_reducible rfl)
 case f8_158=>(go_simp;try with_reducible rfl)
 refine zak (i:=9) (v := ?v9_159) (a' := ?a9_159) rfl (by kernel_rfl) (by kernel_rfl) (by kernel_rfl) (fun _ _ _ h=>h) (by first|exact .inl hC|exact .inr (by kernel_rfl)) (by kernel_rfl) ?w9_159 ?y9_159 ?f9_159 ?r9_159
 case w9_159=>kernel_rfl
 case y9_159=>(intro w hC;go_simp;try with_reducible rfl)
 case f9_159=>(go_simp;try with_reducible rfl)
 refine zak (i:=10) (v := ?v10_160) (a' := ?a10_160) rfl (by kernel_rfl) (by kernel_rfl) (by kernel_rfl) (fun _ _ _ h=>h) (by first|exact .inl hC|exact .inr (by kernel_rfl)) (by kernel_rfl) ?w10_160 ?y10_160 ?f10_160 ?r10_160
 case w10_160=>kernel_rfl
 case y10_160=>(intro w hC;go_simp;try with_reducible rfl)
 case f10_160=>(go_simp;try with_reducible rfl)
 refine zak (i:=11) (v := ?v11_161) (a' := ?a11_161) rfl (by kernel_rfl) (by kernel_rfl) (by kernel_rfl) (fun _ _ _ h=>h) (by first|exact .inl hC|exact .inr (by kernel_rfl)) (by kernel_rfl) ?w11_161 ?y11_161 ?f11_161 ?r11_161
 case w11_161=>kernel_rfl
 case y11_161=>(intro w hC;go_simp;try with_reducible rfl)
 case f11_161=>(go_simp;try with_reducible rfl)
 refine zbb (i:=7) (v := ?v7_162) (a' := ?a7_162) rfl (by kernel_rfl) (by kernel_rfl) (by kernel_rfl) (fun _ _ _ h=>h) hC (by kernel_rfl) ?w7_162 ?y7_162 ?f7_162 ?r7_162
 case w7_162=>kernel_rfl
 case y7_162=>(intro w hC;have h4:=(HR.out w hC).c0;go_simp;try with_reducible rfl)
 case f7_162=>(go_simp;try with_reducible rfl)
 refine zbb (i:=12) (v := ?v12_163) (a' := ?a12_163) rfl (by kernel_rfl) (by kernel_rfl) (by kernel_rfl) (fun _ _ _ h=>h) hC (by kernel_rfl) ?w12_163 ?y12_163 ?f12_163 ?r12_163
 case w12_163=>kernel_rfl
 case y12_163=>(intro w hC;have h4:=(HR.out w hC).c1;go_simp;try with_reducible rfl)
 case f12_163=>(go_simp;try with_reducible rfl)
 refine zbq (i:=13) rfl (by kernel_rfl) (by kernel_rfl) (fun K hK => ?_)
 go_simp
 refine (HC.out _ hC).mono ?_
 rintro e w2 ⟨rfl,hb2⟩
 have hC2:Below (w.heap.size+2) ((w.alloc (.cells (i64s Mm.zeros).toArray 126)).alloc (.cells (i64s Mm.zeros).toArray 126)) w2:=hC.trans (hb2.mono (by rw [←HZ2.out];exact hC.size))
 refine hK _ _ ⟨.inl hC2,?_⟩
 clear hK K hb2
 refine zak (i:=14) (v := ?v14_164) (a' := ?a14_164) rfl (by kernel_rfl) (by kernel_rfl) (by kernel_rfl) (fun _ _ _ h=>h) (by first|exact .inl hC2|exact .inr (by kernel_rfl)) (by kernel_rfl) ?w14_164 ?y14_164 ?f14_164 ?r14_164
 case w14_164=>kernel_rfl
 case y14_164=>(intro w hC;go_simp;try with_reducible rfl)
 case f14_164=>(go_simp;try with_reducible rfl)
 refine zak (i:=15) (v := ?v15_165) (a' := ?a15_165) rfl (by kernel_rfl) (by kernel_rfl) (by kernel_rfl) (fun _ _ _ h=>h) (by first|exact .inl hC2|exact .inr (by kernel_rfl)) (by kernel_rfl) ?w15_165 ?y15_165 ?f15_165 ?r15_165
 case w15_165=>kernel_rfl
 case y15_165=>(intro w hC;go_simp;try with_reducible rfl)
 case f15_165=>(go_simp;try with_reducible rfl)
 refine zak (i:=16) (v := ?v16_166) (a' := ?a16_166) rfl (by kernel_rfl) (by kernel_rfl) (by kernel_rfl) (fun _ _ _ h=>h) (by first|exact .inl hC2|exact .inr (by kernel_rfl)) (by kernel_rfl) ?w16_166 ?y16_166 ?f16_166 ?r16_166
 case w16_166=>kernel_rfl
 case y16_166=>(intro w hC;go_simp;try with_reducible rfl)
 case f16_166=>(go_simp;try with_reducible rfl)
 refine zak (i:=17) (v := ?v17_167) (a' := ?a17_167) rfl (by kernel_rfl) (by kernel_rfl) (by kernel_rfl) (fun _ _ _ h=>h) (by first|exact .inl hC2|exact .inr (by kernel_rfl)) (by kernel_rfl) ?w17_167 ?y17_167 ?f17_167 ?r17_167
 case w17_167=>kernel_rfl
 case y17_167=>(intro w hC;go_simp;try with_reducible rfl)
 case f17_167=>(go_simp;try with_reducible rfl)
 have HR2:=Lib.hid (HR.out w2 hC2)
 have hw2:w.heap.size+2≤w2.heap.size:=by have:=hC2.size;rwa [HZ2.out] at this
 have T5:Hid (w2.there (w.heap.size+1) 0 (i64s q1).toArray.size):=by rw [hqs.out];exact za9 HT5.out hC2 (by omega)
 have T4:Hid (w2.there w.heap.size 0 (i64s q1).toArray.size):=by rw [hqs.out];exact za9 HT4.out hC2 (by omega)
 refine zbq (i:=18) rfl (by kernel_rfl) (by kernel_rfl) (fun K hK => ?_)
 refine zfg 126 (.tmp 5) (.tmp 26) rfl (w.heap.size+1) 0 (i64s q1).toArray rfl rfl T5.out hqi2.out (zdk _) ?_
 have hg5:Hid (w2.grownBy (w2.setCells (w.heap.size+1) 0 (i64s q1)) (some (w.heap.size+1))):=za6 (w.heap.size+1) (i64s q1) 0 w2
 have hr5:=Lib.hid (World.rangeAt_setCells_same w2 (w.heap.size+1) 0 (i64s q1) (by have:=T5.out;rwa [List.size_toArray] at this))
 have T4':=Lib.hid (zb0 T4.out hg5.out (by omega) (by omega))
 have HR3:=Lib.hid (HR2.out.grown hg5.out (by omega) (by omega))
 refine hK _ _ ⟨.inr (by kernel_rfl),?_⟩
 clear hK K T5 T4 HR2
 go_simp
 have hz3:=hg5.out.size
 generalize w2.setCells (w.heap.size+1) 0 (i64s q1)=w3 at *
 refine zak (i:=19) (v := ?v19_168) (a' := ?a19_168) rfl (by kernel_rfl) (by kernel_rfl) (by kernel_rfl) (fun _ _ _ h=>h) (by first|exact .inl hC2|exact .inr (by kernel_rfl)) (by kernel_rfl) ?w19_168 ?y19_168 ?f19_168 ?r19_168
 case w19_168=>kernel_rfl
 case y19_168=>(intro w hC;go_simp;try with_reducible rfl)
 case f19_168=>(go_simp;try with_reducible rfl)
 refine zak (i:=20) (v := ?v20_169) (a' := ?a20_169) rfl (by kernel_rfl) (by kernel_rfl) (by kernel_rfl) (fun _ _ _ h=>h) (by first|exact .inl hC2|exact .inr (by kernel_rfl)) (by kernel_rfl) ?w20_169 ?y20_169 ?f20_169 ?r20_169
 case w20_169=>kernel_rfl
 case y20_169=>(intro w hC;go_simp;try with_reducible rfl)
 case f20_169=>(go_simp;try with_reducible rfl)
 refine zak (i:=21) (v := ?v21_170) (a' := ?a21_170) rfl (by kernel_rfl) (by kernel_rfl) (by kernel_rfl) (fun _ _ _ h=>h) (by first|exact .inl hC2|exact .inr (by kernel_rfl)) (by kernel_rfl) ?w21_170 ?y21_170 ?f21_170 ?r21_170
 case w21_170=>kernel_rfl
 case y21_170=>(intro w hC;go_simp;try with_reducible rfl)
 case f21_170=>(go_simp;try with_reducible rfl)
 have q1':=HR3.out.c1
 have f1':=HR3.out.f 1 (by decide)
 have q2':=HR3.out.kept1 q2
 obtain ⟨q2a,f2a⟩:=q2'
 refine zbq (i:=22) rfl (by kernel_rfl) (by kernel_rfl) (fun K hK => ?_)
 go_simp
 refine hK _ _ ⟨.inr (by kernel_rfl),?_⟩
 clear hK K
 refine zak (i:=23) (v := ?v23_171) (a' := ?a23_171) rfl (by kernel_rfl) (by kernel_rfl) (by kernel_rfl) (fun _ _ _ h=>h) (by first|exact .inl hC2|exact .inr (by kernel_rfl)) (by kernel_rfl) ?w23_171 ?y23_171 ?f23_171 ?r23_171
 case w23_171=>kernel_rfl
 case y23_171=>(intro w hC;go_simp;try with_reducible rfl)
 case f23_171=>(go_simp;try with_reducible rfl)
 refine zak (i:=24) (v := ?v24_172) (a' := ?a24_172) rfl (by kernel_rfl) (by kernel_rfl) (by kernel_rfl) (fun _ _ _ h=>h) (by first|exact .inl hC2|exact .inr (by kernel_rfl)) (by kernel_rfl) ?w24_172 ?y24_172 ?f24_172 ?r24_172
 case w24_172=>kernel_rfl
 case y24_172=>(intro w hC;go_simp;try with_reducible rfl)
 case f24_172=>(go_simp;try with_reducible rfl)
 refine zbq (i:=25) rfl (by kernel_rfl) (by kernel_rfl) (fun K hK => ?_)
 go_simp
 refine hK _ _ ⟨.inr (by kernel_rfl),?_⟩
 clear hK K q1' f1' q2a f2a
 refine zdq (by kernel_rfl) ?_
 have hgr:Hid (w3.grownBy ((w3.setCell ⟨g,1,none⟩ (.int .i64 q2)).setCell ⟨g,2,none⟩ (.int .i64 q3)) (some g)):=(zbj g 1 _ w3).trans (zbj g 2 _ _)
 have hRS:=Lib.hid (HR3.out.set q2 q3)
 have hr5':=Lib.hid (zcb hr5.out hgr.out (by omega) (by omega))
 have T4'':=Lib.hid (zb0 T4'.out hgr.out (by omega) (by omega))
 generalize (w3.setCell ⟨g,1,none⟩ (.int .i64 q2)).setCell ⟨g,2,none⟩ (.int .i64 q3)=w4 at *
 have hz4:=hgr.out.size
 have hgf:Hid (w4.grownBy (w4.setCells w.heap.size 0 (i64s q1)) (some w.heap.size)):=za6 w.heap.size (i64s q1) 0 w4
 have hrng:=Lib.hid (World.rangeAt_setCells_same w4 w.heap.size 0 (i64s q1) (by have:=T4''.out;rwa [List.size_toArray] at this))
 have HRF:=Lib.hid (hRS.out.grown hgf.out (by omega) (by omega))
 have hB3:=Lib.hid (below_grown (hB2.out.trans (hC2.mono (by omega))) hg5.out (by omega) (by omega))
 have hgw4:Hid (w.grownBy (w4.setCells w.heap.size 0 (i64s q1)) (some g)):=zgy ((zbf hB3.out (some g)).trans hgr.out) hgf.out (Nat.le_refl _)
 go_wp2_with (first|(refine wpList_load_mid rfl 126 _ rfl (w.heap.size+1) 0 rfl (i64s q1) _ hr5'.out Tryz.underlying126 rfl hqi.out ?_)|(refine wpList_store_mid rfl 126 _ _ rfl w.heap.size 0 (i64s q1).toArray rfl rfl T4''.out hqi2.out (zdk _) ?_))
 refine bodyPost_ret (zep rfl _ _ w.heap.size (i64s q1) _ rfl hrng.out Tryz.underlying126 rfl hqi.out) rfl ?_
 exact ⟨rfl,HRF.out,hgw4.out⟩
end Go.Proofs.YtponpgcpmlcdpaaGreatDoor
namespace Go.Proofs.YtponpgcpmlcdpaaGreatDoor
open Go.RowKit Go.Shelf
set_option maxHeartbeats 4000000 in
theorem zp9 (g : Nat) (A : Option Addr) (n cap B : Nat) (xs : List Int) (at_ err : Int) (w : World) (hr : Rdr w g A n cap at_ err) (hg : B ≤ g) (hgw : g < w.heap.size) (hx : Rd w B A (u8s xs)) (hn : xs.length = n) (hnc : n ≤ cap) (hcap : cap ≤ maxLen) (hb : Fm.By xs)
  (htab:Tab w) (hat:err=0 → -9223372036854775808≤at_∧at_≤9223372036854775807) :
  Calls Tryz.prog 81 #[.pointer (some ⟨g,0,none⟩),.func (.func 82) #[] #[]] w fun e w'=>∃A1 n1 c1 A2 n2 c2,e = .returned (pv (Mm.zco Pm.zero (at_,err) (Mm.rP xs)).1 A1 n1 c1 A2 n2 c2)∧PlAt w' w'.heap.size (Mm.zco Pm.zero (at_,err) (Mm.rP xs)).1 A1 n1 c1 A2 n2 c2∧Fr w.heap.size A1∧Fr w.heap.size A2 ∧
   Rdr w' g A n cap (Mm.zco Pm.zero (at_,err) (Mm.rP xs)).2.1 (Mm.zco Pm.zero (at_,err) (Mm.rP xs)).2.2∧w.grownBy w' (some g):=by
 have hz1:(w.alloc (.cells (pvs Pm.zero none 0 0 none 0 0).toArray 34)).heap.size=w.heap.size+1:=World.size_alloc ..
 have hz2:((w.alloc (.cells (pvs Pm.zero none 0 0 none 0 0).toArray 34)).alloc (.cells (pvs Pm.zero none 0 0 none 0 0).toArray 34)).heap.size=w.heap.size+2:=by rw [World.size_alloc,hz1]
 have hb2:Below w.heap.size w ((w.alloc (.cells (pvs Pm.zero none 0 0 none 0 0).toArray 34)).alloc (.cells (pvs Pm.zero none 0 0 none 0 0).toArray 34)):=((Below.refl _ w).alloc (Nat.le_refl _) _).alloc (by omega) _
 have ht4:((w.alloc (.cells (pvs Pm.zero none 0 0 none 0 0).toArray 34)).alloc (.cells (pvs Pm.zero none 0 0 none 0 0).toArray 34)).there w.heap.size 0 12:=World.there_alloc (zby w (pvs Pm.zero none 0 0 none 0 0) 34) _
 have ht5:=zby (w.alloc (.cells (pvs Pm.zero none 0 0 none 0 0).toArray 34)) (pvs Pm.zero none 0 0 none 0 0) 34
 have hr5:((w.alloc (.cells (pvs Pm.zero none 0 0 none 0 0).toArray 34)).alloc (.cells (pvs Pm.zero none 0 0 none 0 0).toArray 34)).rangeAt (w.heap.size+1) 0 (pvs Pm.zero none 0 0 none 0 0):=by
  have:=zct (w.alloc (.cells (pvs Pm.zero none 0 0 none 0 0).toArray 34)) (pvs Pm.zero none 0 0 none 0 0) 34
  rwa [hz1] at this
 rw [hz1] at ht5
 have HR0:=hr.below hb2 hgw
 have HX0:=hx.below (hb2.mono (by omega))
 have HTAB:=Lib.hid (htab.below hb2 (Nat.le_refl _))
 have hB2:=Lib.hid hb2
 have HZ2:=Lib.hid hz2
 have HT4:=Lib.hid ht4
 have HT5:=Lib.hid ht5
 have HR5:=Lib.hid hr5
 have k2:=HR0.c2
 rw [show (pvs Pm.zero none 0 0 none 0 0).toArray = #[.int .i64 0,.int .i64 0,.int .i64 0,.int .i64 0,.int .i64 0,.int .i64 0,.int .i64 0,.int .i64 0,.int .u64 0,.int .u64 0,.slice none 0 0,.slice none 0 0] from rfl] at k2
 clear hb2 hz1 hz2 ht4 ht5 hr5 hr hx htab
 by_cases he:err=0
 case neg =>
  have HE:=Lib.hid (Mm.zeu (z:=Pm.zero) (s:=(at_,err)) (r:=Mm.rP xs) he)
  have hq:(err == 0)=false:=by rw [beq_eq_false_iff_ne];exact he
  have HR:=Lib.hid HR0
  have hgr:Hid (((w.alloc (.cells (pvs Pm.zero none 0 0 none 0 0).toArray 34)).alloc (.cells (pvs Pm.zero none 0 0 none 0 0).toArray 34)).grownBy (((w.alloc (.cells (pvs Pm.zero none 0 0 none 0 0).toArray 34)).alloc (.cells (pvs Pm.zero none 0 0 none 0 0).toArray 34)).setCells w.heap.size 0 (pvs Pm.zero none 0 0 none 0 0)) (some w.heap.size)):=za6 w.heap.size (pvs Pm.zero none 0 0 none 0 0) 0 _
  have hrng:=Lib.hid (World.rangeAt_setCells_same ((w.alloc (.cells (pvs Pm.zero none 0 0 none 0 0).toArray 34)).alloc (.cells (pvs Pm.zero none 0 0 none 0 0).toArray 34)) w.heap.size 0 (pvs Pm.zero none 0 0 none 0 0) HT4.out)
  clear he HR0
  go_enter Tryz.func81,Tryz.ntmps81
  go_wp2_with (first|(refine wpList_load_mid rfl 34 _ rfl (w.heap.size+1) 0 rfl (pvs Pm.zero none 0 0 none 0 0) _ HR5.out Tryz.underlying34 rfl za2 ?_)|(refine wpList_store_mid rfl 34 _ _ rfl w.heap.size 0 (pvs Pm.zero none 0 0 none 0 0).toArray rfl rfl HT4.out za2 (zdg _ _ _ _ _ _ _) ?_))
  refine bodyPost_ret (zep rfl _ _ w.heap.size (pvs Pm.zero none 0 0 none 0 0) _ rfl hrng.out Tryz.underlying34 rfl za2) rfl ?_
  rw [HE.out]
  exact ⟨none,0,0,none,0,0,rfl,PlAt.zero _ _,Fr.none,Fr.none,HR.out.grown hgr.out (by omega) (by rw [HZ2.out];omega),zbf (below_grown hB2.out hgr.out (Nat.le_refl _) hB2.out.size) _⟩
 subst he
 have HE:=Lib.hid (Mm.zcf (z:=Pm.zero) (s:=(at_,0)) (r:=Mm.rP xs) rfl)
 dsimp only at HE
 obtain ⟨t0,t1⟩:=hat rfl
 have HR:=Lib.hid (fun (W:World) (h:Below (w.heap.size+2) ((w.alloc (.cells (pvs Pm.zero none 0 0 none 0 0).toArray 34)).alloc (.cells (pvs Pm.zero none 0 0 none 0 0).toArray 34)) W)=>HR0.below h (by omega))
 have HC:=Lib.hid (fun (W:World) (h:Below (w.heap.size+2) ((w.alloc (.cells (pvs Pm.zero none 0 0 none 0 0).toArray 34)).alloc (.cells (pvs Pm.zero none 0 0 none 0 0).toArray 34)) W)=>zo2 A n cap B xs at_ W (HX0.below (h.mono (by omega))) hn hnc hcap (Nat.le_trans (by rw [HZ2.out];omega) h.size) hb t0 t1 (HTAB.out.below h (by rw [HZ2.out];exact Nat.le_refl _)))
 clear hat HR0 HX0
 rw [HE.out]
 generalize Mm.rP xs at_=q at *
 obtain ⟨q1,q2,q3⟩:=q
 dsimp only at *
 go_enter Tryz.func81,Tryz.ntmps81
 go_wp2_with fail
 refine zea (fun W=>Below (w.heap.size+2) ((w.alloc (.cells (pvs Pm.zero none 0 0 none 0 0).toArray 34)).alloc (.cells (pvs Pm.zero none 0 0 none 0 0).toArray 34)) W) (fun j=>j == 18 || j == 22 || j == 25) (by kernel_rfl) ?_
 have hC:Below (w.heap.size+2) ((w.alloc (.cells (pvs Pm.zero none 0 0 none 0 0).toArray 34)).alloc (.cells (pvs Pm.zero none 0 0 none 0 0).toArray 34)) ((w.alloc (.cells (pvs Pm.zero none 0 0 none 0 0).toArray 34)).alloc (.cells (pvs Pm.zero none 0 0 none 0 0).toArray 34)).drew:=(Below.refl _ _).drew
 refine zak (i:=0) (v := ?v0_173) (a' := ?a0_173) rfl (by kernel_rfl) (by kernel_rfl) (by kernel_rfl) (fun _ _ _ h=>h) (by first|exact .inl hC|exact .inr (by kernel_rfl)) (by kernel_rfl) ?w0_173 ?y0_173 ?f0_173 ?r0_173
 case w0_173=>kernel_rfl
 case y0_173=>(intro w hC;go_simp;try with_reducible rfl)
 case f0_173=>(go_simp;try with_reducible rfl)
 refine zak (i:=1) (v := ?v1_174) (a' := ?a1_174) rfl (by kernel_rfl) (by kernel_rfl) (by kernel_rfl) (fun _ _ _ h=>h) (by first|exact .inl hC|exact .inr (by kernel_rfl)) (by kernel_rfl) ?w1_174 ?y1_174 ?f1_174 ?r1_174
 case w1_174=>kernel_rfl
 case y1_174=>(intro w hC;go_simp;try with_reducible rfl)
 case f1_174=>(go_simp;try with_reducible rfl)
 refine zak (i:=2) (v := ?v2_175) (a' := ?a2_175) rfl (by kernel_rfl) (by kernel_rfl) (by kernel_rfl) (fun _ _ _ h=>h) (by first|exact .inl hC|exact .inr (by kernel_rfl)) (by kernel_rfl) ?w2_175 ?y2_175 ?f2_175 ?r2_175
 case w2_175=>kernel_rfl
 case y2_175=>(intro w hC;go_simp;try with_reducible rfl)
 case f2_175=>(go_simp;try with_reducible rfl)
 refine zak (i:=3) (v := ?v3_176) (a' := ?a3_176) rfl (by kernel_rfl) (by kernel_rfl) (by kernel_rfl) (fun _ _ _ h=>h) (by first|exact .inl hC|exact .inr (by kernel_rfl)) (by kernel_rfl) ?w3_176 ?y3_176 ?f3_176 ?r3_176
 case w3_176=>kernel_rfl
 case y3_176=>(intro w hC;go_simp;try with_reducible rfl)
 case f3_176=>(go_simp;try with_reducible rfl)
 refine zak (i:=4) (v := ?v4_177) (a' := ?a4_177) rfl (by kernel_rfl) (by kernel_rfl) (by kernel_rfl) (fun _ _ _ h=>h) (by first|exact .inl hC|exact .inr (by kernel_rfl)) (by kernel_rfl) ?w4_177 ?y4_177 ?f4_177 ?r4_177
 case w4_177=>kernel_rfl
 case y4_177=>(intro w hC;go_simp;try with_reducible rfl)
 case f4_177=>(go_simp;try with_reducible rfl)
 refine zak (i:=5) (v := ?v5_178) (a' := ?a5_178) rfl (by kernel_rfl) (by kernel_rfl) (by kernel_rfl) (fun _ _ _ h=>h) (by first|exact .inl hC|exact .inr (by kernel_rfl)) (by kernel_rfl) ?w5_178 ?y5_178 ?f5_178 ?r5_178
 case w5_178=>kernel_rfl
 case y5_178=>(intro w hC;go_simp;try with_reducible rfl)
 case f5_178=>(go_simp;try with_reducible rfl)
 refine zak (i:=6) (v := ?v6_179) (a' := ?a6_179) rfl (by kernel_rfl) (by kernel_rfl) (by kernel_rfl) (fun _ _ _ h=>h) (by first|exact .inl hC|exact .inr (by kernel_rfl)) (by kernel_rfl) ?w6_179 ?y6_179 ?f6_179 ?r6_179
 case w6_179=>kernel_rfl
 case y6_179=>(intro w hC;go_simp;try with_reducible rfl)
 case f6_179=>(go_simp;try with_reducible rfl)
 refine zak (i:=8) (v := ?v8_180) (a' := ?a8_180) rfl (by kernel_rfl) (by kernel_rfl) (by kernel_rfl) (fun _ _ _ h=>h) (by first|exact .inl hC|exact .inr (by kernel_rfl)) (by kernel_rfl) ?w8_180 ?y8_180 ?f8_180 ?r8_180
 case w8_180=>kernel_rfl
 case y8_180=>(intro w hC;go_simp;try with_reducible rfl)
 case f8_180=>(go_simp;try with_reducible rfl)
 refine zak (i:=9) (v := ?v9_181) (a' := ?a9_181) rfl (by kernel_rfl) (by kernel_rfl) (by kernel_rfl) (fun _ _ _ h=>h) (by first|exact .inl hC|exact .inr (by kernel_rfl)) (by kernel_rfl) ?w9_181 ?y9_181 ?f9_181 ?r9_181
 case w9_181=>kernel_rfl
 case y9_181=>(intro w hC;go_simp;try with_reducible rfl)
 case f9_181=>(go_simp;try with_reducible rfl)
 refine zak (i:=10) (v := ?v10_182) (a' := ?a10_182) rfl (by kernel_rfl) (by kernel_rfl) (by kernel_rfl) (fun _ _ _ h=>h) (by first|exact .inl hC|exact .inr (by kernel_rfl)) (by kernel_rfl) ?w10_182 ?y10_182 ?f10_182 ?r10_182
 case w10_182=>kernel_rfl
 case y10_182=>(intro w hC;go_simp;try with_reducible rfl)
 case f10_182=>(go_simp;try with_reducible rfl)
 refine zak (i:=11) (v := ?v11_183) (a' := ?a11_183) rfl (by kernel_rfl) (by kernel_rfl) (by kernel_rfl) (fun _ _ _ h=>h) (by first|exact .inl hC|exact .inr (by kernel_rfl)) (by kernel_rfl) ?w11_183 ?y11_183 ?f11_183 ?r11_183
 case w11_183=>kernel_rfl
 case y11_183=>(intro w hC;go_simp;try with_reducible rfl)
 case f11_183=>(go_simp;try with_reducible rfl)
 refine zbb (i:=7) (v := ?v7_184) (a' := ?a7_184) rfl (by kernel_rfl) (by kernel_rfl) (by kernel_rfl) (fun _ _ _ h=>h) hC (by kernel_rfl) ?w7_184 ?y7_184 ?f7_184 ?r7_184
 case w7_184=>kernel_rfl
 case y7_184=>(intro w hC;have h4:=(HR.out w hC).c0;go_simp;try with_reducible rfl)
 case f7_184=>(go_simp;try with_reducible rfl)
 refine zbb (i:=12) (v := ?v12_185) (a' := ?a12_185) rfl (by kernel_rfl) (by kernel_rfl) (by kernel_rfl) (fun _ _ _ h=>h) hC (by kernel_rfl) ?w12_185 ?y12_185 ?f12_185 ?r12_185
 case w12_185=>kernel_rfl
 case y12_185=>(intro w hC;have h4:=(HR.out w hC).c1;go_simp;try with_reducible rfl)
 case f12_185=>(go_simp;try with_reducible rfl)
 refine zbq (i:=13) rfl (by kernel_rfl) (by kernel_rfl) (fun K hK => ?_)
 go_simp
 refine (HC.out _ hC).mono ?_
 rintro e w2 ⟨A1,n1,c1,A2,n2,c2,rfl,hpl,hf1,hf2,hb2⟩
 have hd2:w.heap.size+2≤(World.drew ((w.alloc (.cells (pvs Pm.zero none 0 0 none 0 0).toArray 34)).alloc (.cells (pvs Pm.zero none 0 0 none 0 0).toArray 34))).heap.size:=by rw [←HZ2.out];exact hC.size
 have HF1:=Lib.hid (hf1.mono hd2)
 have HF2:=Lib.hid (hf2.mono hd2)
 have HPL:=Lib.hid hpl
 clear hf1 hf2 hpl hd2
 have hC2:Below (w.heap.size+2) ((w.alloc (.cells (pvs Pm.zero none 0 0 none 0 0).toArray 34)).alloc (.cells (pvs Pm.zero none 0 0 none 0 0).toArray 34)) w2:=hC.trans (hb2.mono (by rw [←HZ2.out];exact hC.size))
 refine hK _ _ ⟨.inl hC2,?_⟩
 clear hK K hb2
 refine zak (i:=14) (v := ?v14_186) (a' := ?a14_186) rfl (by kernel_rfl) (by kernel_rfl) (by kernel_rfl) (fun _ _ _ h=>h) (by first|exact .inl hC2|exact .inr (by kernel_rfl)) (by kernel_rfl) ?w14_186 ?y14_186 ?f14_186 ?r14_186
 case w14_186=>kernel_rfl
 case y14_186=>(intro w hC;go_simp;try with_reducible rfl)
 case f14_186=>(go_simp;try with_reducible rfl)
 refine zak (i:=15) (v := ?v15_187) (a' := ?a15_187) rfl (by kernel_rfl) (by kernel_rfl) (by kernel_rfl) (fun _ _ _ h=>h) (by first|exact .inl hC2|exact .inr (by kernel_rfl)) (by kernel_rfl) ?w15_187 ?y15_187 ?f15_187 ?r15_187
 case w15_187=>kernel_rfl
 case y15_187=>(intro w hC;go_simp;try with_reducible rfl)
 case f15_187=>(go_simp;try with_reducible rfl)
 refine zak (i:=16) (v := ?v16_188) (a' := ?a16_188) rfl (by kernel_rfl) (by kernel_rfl) (by kernel_rfl) (fun _ _ _ h=>h) (by first|exact .inl hC2|exact .inr (by kernel_rfl)) (by kernel_rfl) ?w16_188 ?y16_188 ?f16_188 ?r16_188
 case w16_188=>kernel_rfl
 case y16_188=>(intro w hC;go_simp;try with_reducible rfl)
 case f16_188=>(go_simp;try with_reducible rfl)
 refine zak (i:=17) (v := ?v17_189) (a' := ?a17_189) rfl (by kernel_rfl) (by kernel_rfl) (by kernel_rfl) (fun _ _ _ h=>h) (by first|exact .inl hC2|exact .inr (by kernel_rfl)) (by kernel_rfl) ?w17_189 ?y17_189 ?f17_189 ?r17_189
 case w17_189=>kernel_rfl
 case y17_189=>(intro w hC;go_simp;try with_reducible rfl)
 case f17_189=>(go_simp;try with_reducible rfl)
 have HR2:=Lib.hid (HR.out w2 hC2)
 have hw2:w.heap.size+2≤w2.heap.size:=by have:=hC2.size;rwa [HZ2.out] at this
 have T5:Hid (w2.there (w.heap.size+1) 0 (pvs q1 A1 n1 c1 A2 n2 c2).toArray.size):=za9 HT5.out hC2 (by omega)
 have T4:Hid (w2.there w.heap.size 0 (pvs q1 A1 n1 c1 A2 n2 c2).toArray.size):=za9 HT4.out hC2 (by omega)
 refine zbq (i:=18) rfl (by kernel_rfl) (by kernel_rfl) (fun K hK => ?_)
 refine zfg 34 (.tmp 5) (.tmp 26) rfl (w.heap.size+1) 0 (pvs q1 A1 n1 c1 A2 n2 c2).toArray rfl rfl T5.out za2 (zdg _ _ _ _ _ _ _) ?_
 have hg5:Hid (w2.grownBy (w2.setCells (w.heap.size+1) 0 (pvs q1 A1 n1 c1 A2 n2 c2)) (some (w.heap.size+1))):=za6 (w.heap.size+1) (pvs q1 A1 n1 c1 A2 n2 c2) 0 w2
 have hr5:=Lib.hid (World.rangeAt_setCells_same w2 (w.heap.size+1) 0 (pvs q1 A1 n1 c1 A2 n2 c2) T5.out)
 have T4':=Lib.hid (zb0 T4.out hg5.out (by omega) (by omega))
 have HR3:=Lib.hid (HR2.out.grown hg5.out (by omega) (by omega))
 have HPL3:=Lib.hid (HPL.out.other HF1.out HF2.out hg5.out (by omega) (Nat.le_refl _))
 refine hK _ _ ⟨.inr (by kernel_rfl),?_⟩
 clear hK K T5 T4 HR2 HPL
 go_simp
 have hz3:=hg5.out.size
 generalize w2.setCells (w.heap.size+1) 0 (pvs q1 A1 n1 c1 A2 n2 c2)=w3 at *
 refine zak (i:=19) (v := ?v19_190) (a' := ?a19_190) rfl (by kernel_rfl) (by kernel_rfl) (by kernel_rfl) (fun _ _ _ h=>h) (by first|exact .inl hC2|exact .inr (by kernel_rfl)) (by kernel_rfl) ?w19_190 ?y19_190 ?f19_190 ?r19_190
 case w19_190=>kernel_rfl
 case y19_190=>(intro w hC;go_simp;try with_reducible rfl)
 case f19_190=>(go_simp;try with_reducible rfl)
 refine zak (i:=20) (v := ?v20_191) (a' := ?a20_191) rfl (by kernel_rfl) (by kernel_rfl) (by kernel_rfl) (fun _ _ _ h=>h) (by first|exact .inl hC2|exact .inr (by kernel_rfl)) (by kernel_rfl) ?w20_191 ?y20_191 ?f20_191 ?r20_191
 case w20_191=>kernel_rfl
 case y20_191=>(intro w hC;go_simp;try with_reducible rfl)
 case f20_191=>(go_simp;try with_reducible rfl)
 refine zak (i:=21) (v := ?v21_192) (a' := ?a21_192) rfl (by kernel_rfl) (by kernel_rfl) (by kernel_rfl) (fun _ _ _ h=>h) (by first|exact .inl hC2|exact .inr (by kernel_rfl)) (by kernel_rfl) ?w21_192 ?y21_192 ?f21_192 ?r21_192
 case w21_192=>kernel_rfl
 case y21_192=>(intro w hC;go_simp;try with_reducible rfl)
 case f21_192=>(go_simp;try with_reducible rfl)
 have q1':=HR3.out.c1
 have f1':=HR3.out.f 1 (by decide)
 have q2':=HR3.out.kept1 q2
 obtain ⟨q2a,f2a⟩:=q2'
 refine zbq (i:=22) rfl (by kernel_rfl) (by kernel_rfl) (fun K hK => ?_)
 go_simp
 refine hK _ _ ⟨.inr (by kernel_rfl),?_⟩
 clear hK K
 refine zak (i:=23) (v := ?v23_193) (a' := ?a23_193) rfl (by kernel_rfl) (by kernel_rfl) (by kernel_rfl) (fun _ _ _ h=>h) (by first|exact .inl hC2|exact .inr (by kernel_rfl)) (by kernel_rfl) ?w23_193 ?y23_193 ?f23_193 ?r23_193
 case w23_193=>kernel_rfl
 case y23_193=>(intro w hC;go_simp;try with_reducible rfl)
 case f23_193=>(go_simp;try with_reducible rfl)
 refine zak (i:=24) (v := ?v24_194) (a' := ?a24_194) rfl (by kernel_rfl) (by kernel_rfl) (by kernel_rfl) (fun _ _ _ h=>h) (by first|exact .inl hC2|exact .inr (by kernel_rfl)) (by kernel_rfl) ?w24_194 ?y24_194 ?f24_194 ?r24_194
 case w24_194=>kernel_rfl
 case y24_194=>(intro w hC;go_simp;try with_reducible rfl)
 case f24_194=>(go_simp;try with_reducible rfl)
 refine zbq (i:=25) rfl (by kernel_rfl) (by kernel_rfl) (fun K hK => ?_)
 go_simp
 refine hK _ _ ⟨.inr (by kernel_rfl),?_⟩
 clear hK K q1' f1' q2a f2a
 refine zdq (by kernel_rfl) ?_
 have hgr:Hid (w3.grownBy ((w3.setCell ⟨g,1,none⟩ (.int .i64 q2)).setCell ⟨g,2,none⟩ (.int .i64 q3)) (some g)):=(zbj g 1 _ w3).trans (zbj g 2 _ _)
 have hRS:=Lib.hid (HR3.out.set q2 q3)
 have HPL4:=Lib.hid (HPL3.out.other HF1.out HF2.out hgr.out (by omega) hz3)
 have hr5':=Lib.hid (zcb hr5.out hgr.out (by omega) (by omega))
 have T4'':=Lib.hid (zb0 T4'.out hgr.out (by omega) (by omega))
 generalize (w3.setCell ⟨g,1,none⟩ (.int .i64 q2)).setCell ⟨g,2,none⟩ (.int .i64 q3)=w4 at *
 have hz4:=hgr.out.size
 have hgf:Hid (w4.grownBy (w4.setCells w.heap.size 0 (pvs q1 A1 n1 c1 A2 n2 c2)) (some w.heap.size)):=za6 w.heap.size (pvs q1 A1 n1 c1 A2 n2 c2) 0 w4
 have hrng:=Lib.hid (World.rangeAt_setCells_same w4 w.heap.size 0 (pvs q1 A1 n1 c1 A2 n2 c2) T4''.out)
 have HPL5:=Lib.hid ((HPL4.out.other HF1.out HF2.out hgf.out (by omega) (by omega)).more (Nat.le_trans (Nat.le_trans hz3 hz4) hgf.out.size))
 have HRF:=Lib.hid (hRS.out.grown hgf.out (by omega) (by omega))
 have hB3:=Lib.hid (below_grown (hB2.out.trans (hC2.mono (by omega))) hg5.out (by omega) (by omega))
 have hgw4:Hid (w.grownBy (w4.setCells w.heap.size 0 (pvs q1 A1 n1 c1 A2 n2 c2)) (some g)):=zgy ((zbf hB3.out (some g)).trans hgr.out) hgf.out (Nat.le_refl _)
 go_wp2_with (first|(refine wpList_load_mid rfl 34 _ rfl (w.heap.size+1) 0 rfl (pvs q1 A1 n1 c1 A2 n2 c2) _ hr5'.out Tryz.underlying34 rfl za2 ?_)|(refine wpList_store_mid rfl 34 _ _ rfl w.heap.size 0 (pvs q1 A1 n1 c1 A2 n2 c2).toArray rfl rfl T4''.out za2 (zdg _ _ _ _ _ _ _) ?_))
 refine bodyPost_ret (zep rfl _ _ w.heap.size (pvs q1 A1 n1 c1 A2 n2 c2) _ rfl hrng.out Tryz.underlying34 rfl za2) rfl ?_
 exact ⟨A1,n1,c1,A2,n2,c2,rfl,HPL5.out,HF1.out.mono (by omega),HF2.out.mono (by omega),HRF.out,hgw4.out⟩
end Go.Proofs.YtponpgcpmlcdpaaGreatDoor
namespace Go.Proofs.YtponpgcpmlcdpaaGreatDoor
open Go.RowKit Go.Shelf
set_option maxHeartbeats 1000000 in
theorem zl3 (A : Option Addr) (n cap : Nat) (at_ : Int) (w : World) :
  Calls Tryz.prog 87 #[.agg #[.slice A n cap,.int .i64 at_]] w fun e w'=>e = .returned (.bool (at_ == (n:Int)))∧Below w.heap.size w w':=by
 go_enter Tryz.func87,Tryz.ntmps87
 go_wp2
 go_ret
 exact ⟨rfl,(Below.refl _ w).alloc (Nat.le_refl _) _⟩
end Go.Proofs.YtponpgcpmlcdpaaGreatDoor
namespace Go.Proofs.YtponpgcpmlcdpaaGreatDoor.Mm
open Go.RowKit
theorem bad5 {k:Int} {b:List Int} (h:(s5 b).2.2≠0):of k b=(zero,51):=of_no fun g=>h g.1
theorem badL {k:Int} {b:List Int} (h:(s5 b).2.1≠(b.length:Int)):of k b=(zero,51):=of_no fun g=>h g.2.1
theorem badR {k:Int} {b:List Int} (h:(got k b).right=false):of k b=(zero,51):=of_no fun g=>by rw [g.2.2.2] at h;cases h
theorem rseq_nil {b:List Int}:∀(k:Nat) (nx:Int),(Wm.rseq b k nx).2.2≠0→(Wm.rseq b k nx).1=[]
 |0,_,h=>absurd rfl h
 | k + 1, nx, h => by
   unfold Wm.rseq at h ⊢
   split
   ·rfl
   ·rename_i h0
    rw [if_neg h0] at h
    unfold Wm.ze9 at h ⊢
    split
    ·rfl
    ·rename_i h1
     rw [if_neg h1] at h
     exact absurd rfl h
theorem zp5 {b:List Int} {t:Int} (h:(Wm.za1 b t).2.2≠0):(Wm.za1 b t).1=[]:=by
 unfold Wm.za1 at h ⊢
 split
 ·rfl
 ·rename_i h0
  rw [if_neg h0] at h
  exact rseq_nil _ _ h
theorem zp2 {b:List Int} {t:Int} (h:(Wm.zbl b t).2.2≠0):(Wm.zbl b t).1=[]:=by
 unfold Wm.zbl at h ⊢
 split
 ·rfl
 ·split
  ·rfl
  ·rename_i h1 h2
   rw [if_neg h1,if_neg h2] at h
   exact absurd rfl h
theorem zkm:Wm.Fits []:=fun _ h=>absurd h List.not_mem_nil
theorem zjc {b:List Int} {n:Nat} (hb:Fm.By b):Wm.Fits (Wm.za1 b (n:Int)).1:=by
 by_cases h:(Wm.za1 b (n:Int)).2.2=0
 ·obtain ⟨l,to,e⟩:=Pm.zd2 h hb
  rw [e]
  exact (Pm.zew e hb).2.1
 ·rw [zp5 h];exact zkm
theorem rtext_by {b:List Int} {n:Nat} (hb:Fm.By b):Fm.By (Wm.zbl b (n:Int)).1:=by
 by_cases h:(Wm.zbl b (n:Int)).2.2=0
 ·obtain ⟨l,to,e⟩:=zf9 h hb
  rw [e]
  exact (zho e hb).2.1
 ·rw [zp2 h];exact Fm.By.nil
def Pl1 (b:List Int) (s:Int×Int):Prop:=s.2=0→∃n:Nat,s.1=(n:Int)∧n≤b.length
theorem pl_ints {b:List Int} {s:Int×Int} (hb:Fm.By b) (h:Pl1 b s):Pl1 b (zco [] s (Wm.za1 b)).2:=fun e=>by
 have e0:=zgq e
 obtain ⟨n,hn,-⟩:=h e0
 rw [zcf e0,hn] at e ⊢
 obtain ⟨l,to,e2⟩:=Pm.zd2 e hb
 rw [e2]
 exact ⟨to,rfl,(Pm.zew e2 hb).2.2.2.1⟩
theorem pl_text {b:List Int} {s:Int×Int} (hb:Fm.By b) (h:Pl1 b s):Pl1 b (zco [] s (Wm.zbl b)).2:=fun e=>by
 have e0:=zgq e
 obtain ⟨n,hn,-⟩:=h e0
 rw [zcf e0,hn] at e ⊢
 obtain ⟨l,to,e2⟩:=zf9 e hb
 rw [e2]
 exact ⟨to,rfl,(zho e2 hb).2.2.2.1⟩
theorem zrh {b:List Int} {s:Int×Int} (hb:Fm.By b) (h:Pl1 b s):Wm.Fits (zco [] s (Wm.za1 b)).1:=by
 by_cases e0:s.2=0
 ·obtain ⟨n,hn,-⟩:=h e0
  rw [zcf e0,hn]
  exact zjc hb
 ·rw [zeu e0];exact zkm
theorem zrz {b:List Int} {s:Int×Int} (hb:Fm.By b) (h:Pl1 b s):Fm.By (zco [] s (Wm.zbl b)).1:=by
 by_cases e0:s.2=0
 ·obtain ⟨n,hn,-⟩:=h e0
  rw [zcf e0,hn]
  exact rtext_by hb
 ·rw [zeu e0];exact Fm.By.nil
theorem pl_N {b:List Int} (hb:Fm.By b):Pl1 b (rN b 0).2:=fun e=>by
 by_cases h:(Wm.za1 b 0).2.2=0
 ·by_cases h1:(Wm.za1 b 0).1.length=10
  ·rw [zqf h h1]
   obtain ⟨l,to,e2⟩:=Pm.zd2 (n:=0) h hb
   have e3:Wm.za1 b 0=(l,(to:Int),0):=e2
   rw [e3]
   exact ⟨to,rfl,(Pm.zew (n:=0) e2 hb).2.2.2.1⟩
  ·rw [znv h h1] at e;cases e
 ·rw [znw h] at e;exact absurd e h
theorem fits_N {b:List Int} (hb:Fm.By b):Wm.Fits (rN b 0).1:=by
 have hz:Wm.Fits zeros:=fun n hn=>by
  have:n=0:=by
   unfold zeros at hn
   simpa using hn
  subst this
  exact ⟨by decide,by decide⟩
 by_cases h:(Wm.za1 b 0).2.2=0
 ·by_cases h1:(Wm.za1 b 0).1.length=10
  ·rw [zqf h h1];exact zjc (n:=0) hb
  ·rw [znv h h1];exact hz
 ·rw [znw h];exact hz
theorem pl_P {b:List Int} {s:Int×Int} (hb:Fm.By b) (h:Pl1 b s):Pl1 b (zco Pm.zero s (rP b)).2:=fun e=>by
 have e0:=zgq e
 obtain ⟨n,hn,-⟩:=h e0
 rw [zcf e0,hn] at e ⊢
 by_cases h1:(Wm.zbl b (n:Int)).2.2=0
 ·by_cases h2:(Pm.get (Wm.zbl b (n:Int)).1).2=0
  ·rw [rP_ok h1 h2]
   obtain ⟨l,to,e2⟩:=zf9 h1 hb
   rw [e2]
   exact ⟨to,rfl,(zho e2 hb).2.2.2.1⟩
  ·rw [rP_no h1 h2] at e;exact absurd e h2
 ·rw [rP_err h1] at e;exact absurd e h1
theorem pl_s2 {b:List Int} (hb:Fm.By b):Pl1 b (s2 b).2:=by
 unfold s2
 split
 ·exact pl_P hb (pl_N hb)
 ·exact pl_N hb
theorem pl_s3 {b:List Int} (hb:Fm.By b):Pl1 b (s3 b).2:=pl_ints hb (pl_s2 hb)
theorem pl_s4 {b:List Int} (hb:Fm.By b):Pl1 b (s4 b).2:=pl_text hb (pl_s3 hb)
theorem ok_msOf {k:Int} {ns:List Int} (hk:Pm.I k) (hf:Wm.Fits ns):(msOf k ns).Ok :=
 ⟨hk,Pm.zcs hf 0,Pm.zcs hf 1,Pm.zcs hf 2,Pm.zcs hf 3,Pm.zcs hf 4,Pm.zcs hf 5,Pm.zcs hf 6,Pm.zpt (Pm.zcs hf 7),Pm.zcs hf 8,Pm.zfh,zkm,Fm.By.nil,Fm.By.nil⟩
theorem k_fit {k:Int} (hk:0≤k∧k≤255):Pm.I k:=⟨by omega,by omega⟩
end Go.Proofs.YtponpgcpmlcdpaaGreatDoor.Mm
namespace Go.Proofs.YtponpgcpmlcdpaaGreatDoor
open Go.RowKit Go.Shelf
theorem zff {w:World} {b o:Nat} {xs ys:List Value} (h1:w.rangeAt b o xs) (h2:w.rangeAt b (o+xs.length) ys):w.rangeAt b o (xs++ys):=fun j v hv=>by
 by_cases hj:j < xs.length
 ·rw [List.getElem?_append_left hj] at hv
  exact h1 j v hv
 ·rw [List.getElem?_append_right (by omega)] at hv
  have:=h2 (j - xs.length) v hv
  rwa [show o+xs.length+(j - xs.length)=o+j from by omega] at this
theorem zer {w:World} {b o:Nat} {xs ys:List Value} (h:w.rangeAt b o (xs++ys)):w.rangeAt b o xs:=fun j v hv=>h j v (by rw [List.getElem?_append_left (List.getElem?_eq_some_iff.1 hv).1];exact hv)
theorem zeq {w:World} {b o:Nat} {xs ys:List Value} (h:w.rangeAt b o (xs++ys)):w.rangeAt b (o+xs.length) ys:=fun j v hv=>by
 have:=h (xs.length+j) v (by rw [List.getElem?_append_right (Nat.le_add_right _ _),Nat.add_sub_cancel_left];exact hv)
 rwa [←Nat.add_assoc] at this
theorem zc7 {w : World} {b o p : Nat} {xs ys zs cs : List Value} (h : w.rangeAt b o (xs ++ (ys ++ zs))) (hp : o + xs.length = p) (hl : ys.length = cs.length) (ht : w.there b p cs.length) :
  (w.setCells b p cs).rangeAt b o (xs++(cs++zs)):=by
 subst hp
 refine zff (World.rangeAt_setCells_apart (zer h) b _ cs (.inr (.inl (Nat.le_refl _)))) (zff (World.rangeAt_setCells_same w b _ cs ht) ?_)
 have h2:=zeq (zeq h)
 rw [hl] at h2
 exact World.rangeAt_setCells_apart h2 b _ cs (.inr (.inr (Nat.le_refl _)))
theorem zb6 {w:World} {b o n p m:Nat} (h:w.there b o n) (h1:o≤p) (h2:p+m≤o+n):w.there b p m:=fun j hj=>by
 have:=h (p - o+j) (by omega)
 rwa [show o+(p - o+j)=p+j from by omega] at this
structure LoFr (base:Nat) (l:Lo):Prop where
 f1:Fr base l.A1
 f2:Fr base l.A2
 f3:Fr base l.A3
 f4:Fr base l.A4
 f5:Fr base l.A5
theorem LoFr.zero (base:Nat):LoFr base Lo.zero:=⟨Fr.none,Fr.none,Fr.none,Fr.none,Fr.none⟩
theorem LoFr.mono {base base':Nat} {l:Lo} (h:LoFr base l) (hb:base'≤base):LoFr base' l:=⟨h.f1.mono hb,h.f2.mono hb,h.f3.mono hb,h.f4.mono hb,h.f5.mono hb⟩
theorem MsAt.other {w w':World} {B b base:Nat} {x:Mm.Ms} {l:Lo} (h:MsAt w B x l) (hf:LoFr base l) (hg:w.grownBy w' (some b)) (hb:b < base) (hB:B≤w.heap.size):MsAt w' B x l :=
 ⟨h.ok,h.pl.other hf.f1 hf.f2 hg hb hB,h.r3.other hf.f3 hg hb hB,h.l3,h.c3,h.m3,h.r4.other hf.f4 hg hb hB,h.l4,h.c4,h.m4,h.r5.other hf.f5 hg hb hB,h.l5,h.c5,h.m5⟩
theorem Mm.Pl1.bounds {b:List Int} {s:Int×Int} (h:Mm.Pl1 b s) {n cap:Nat} (hn:b.length=n) (hnc:n≤cap) (hcap:cap≤maxLen):s.2=0 → -9223372036854775808≤s.1∧s.1≤9223372036854775807:=fun e=>by
 obtain ⟨m,hm,hl⟩:=h e
 unfold maxLen at hcap
 omega
structure Ofs (w W:World) (A:Option Addr) (n cap:Nat) (at_ err:Int) (b7 b8:Nat) (ns:List Int) (x:Mm.Ms) (l:Lo):Prop where
 r:Rdr W (w.heap.size+1) A n cap at_ err
 n7:W.rangeAt b7 0 (i64s ns)
 m8:W.rangeAt b8 0 (mvs x l)
 t8:W.there b8 0 26
 t4:W.there w.heap.size 0 26
 ms:MsAt W W.heap.size x l
 fr:LoFr (b8+1) l
 h1:w.heap.size+1 < b7
 h2:b7 < b8
 h3:b8 < W.heap.size
 bel:Below w.heap.size w W
section
variable {w W W2:World} {A:Option Addr} {n cap:Nat} {at_ err at2 err2:Int} {b7 b8:Nat} {ns:List Int} {x x':Mm.Ms} {l l':Lo}
theorem Ofs.read (h:Ofs w W A n cap at_ err b7 b8 ns x l) (hr:Rdr W2 (w.heap.size+1) A n cap at2 err2) (hg:W.grownBy W2 (some (w.heap.size+1))):Ofs w W2 A n cap at2 err2 b7 b8 ns x l:=by
 have h1:=h.h1
 have h2:=h.h2
 have h3:=h.h3
 have hz:=h.bel.size
 exact ⟨hr,zcb h.n7 hg (by omega) (by omega),zcb h.m8 hg (by omega) (by omega),zb0 h.t8 hg (by omega) (by omega),zb0 h.t4 hg (by omega) (by omega),
  (h.ms.other h.fr hg (by omega) (Nat.le_refl _)).more hg.size,h.fr,h1,h2,Nat.lt_of_lt_of_le h3 hg.size,below_grown h.bel hg (by omega) hz⟩
theorem Ofs.set (h : Ofs w W A n cap at_ err b7 b8 ns x l) {p : Nat} {xs ys zs cs : List Value} (e : mvs x l = xs ++ (ys ++ zs)) (e' : mvs x' l' = xs ++ (cs ++ zs)) (hp : xs.length = p) (hl : ys.length = cs.length)
  (hms:MsAt W W.heap.size x' l') (hfr:LoFr (b8+1) l'):Ofs w (W.setCells b8 p cs) A n cap at_ err b7 b8 ns x' l':=by
 have h1:=h.h1
 have h2:=h.h2
 have h3:=h.h3
 have hz:=h.bel.size
 have hg:=za6 b8 cs p W
 have h26:=zmx x l
 rw [e,List.length_append,List.length_append] at h26
 refine ⟨h.r.grown hg (by omega) (by omega),zcb h.n7 hg (by omega) (by omega),?_,World.there_setCells h.t8 b8 p cs,zb0 h.t4 hg (by omega) (by omega),
  (hms.other hfr hg (by omega) (Nat.le_refl _)).more hg.size,hfr,h1,h2,Nat.lt_of_lt_of_le h3 hg.size,below_grown h.bel hg (by omega) hz⟩
 rw [e']
 have hm:=h.m8
 rw [e] at hm
 exact zc7 hm (by omega) hl (zb6 h.t8 (Nat.zero_le _) (by omega))
theorem Ofs.plan (h : Ofs w W A n cap at_ err b7 b8 ns x l) (p : Pm.Pl) (A1 : Option Addr) (n1 c1 : Nat) (A2 : Option Addr) (n2 c2 : Nat) (hp : PlAt W W.heap.size p A1 n1 c1 A2 n2 c2) (f1 : Fr (b8 + 1) A1) (f2 : Fr (b8 + 1) A2) :
  Ofs w (W.setCells b8 11 (pvs p A1 n1 c1 A2 n2 c2)) A n cap at_ err b7 b8 ns { x with plan:=p } { l with A1:=A1,n1:=n1,c1:=c1,A2:=A2,n2:=n2,c2:=c2 }:=by
 have m:=h.ms
 have o:=m.ok
 exact h.set (xs:=[.int .i64 x.k,.int .i64 x.f,.int .i64 x.t,.int .i64 x.e,.int .i64 x.b,.int .i64 x.a,.int .i64 x.n,.int .i64 x.ti,.int .u64 x.up,.int .i64 x.co,.bool x.has]) (ys:=pvs x.plan l.A1 l.n1 l.c1 l.A2 l.n2 l.c2)
  (zs:=[.slice l.A3 l.n3 l.c3,.slice l.A4 l.n4 l.c4,.slice l.A5 l.n5 l.c5]) rfl rfl rfl rfl
  ⟨⟨o.k,o.f,o.t,o.e,o.b,o.a,o.n,o.ti,o.up,o.co,hp.ok,o.id,o.se,o.pa⟩,hp,m.r3,m.l3,m.c3,m.m3,m.r4,m.l4,m.c4,m.m4,m.r5,m.l5,m.c5,m.m5⟩ ⟨f1,f2,h.fr.f3,h.fr.f4,h.fr.f5⟩
theorem Ofs.kind (h:Ofs w W A n cap at_ err b7 b8 ns x l) (k:Int) (hk:Pm.I k):Ofs w (W.setCell ⟨b8,0,none⟩ (.int .i64 k)) A n cap at_ err b7 b8 ns { x with k:=k } l:=by
 have m:=h.ms
 have o:=m.ok
 exact h.set (p:=0) (xs:=[]) (ys:=[.int .i64 x.k]) (cs:=[.int .i64 k])
  (zs:=(mvs x l).drop 1) rfl rfl rfl rfl
  ⟨⟨hk,o.f,o.t,o.e,o.b,o.a,o.n,o.ti,o.up,o.co,o.plan,o.id,o.se,o.pa⟩,m.pl,m.r3,m.l3,m.c3,m.m3,m.r4,m.l4,m.c4,m.m4,m.r5,m.l5,m.c5,m.m5⟩ h.fr
theorem Ofs.id (h : Ofs w W A n cap at_ err b7 b8 ns x l) (v : List Int) (D : Option Addr) (m c : Nat) (hr : Rd W W.heap.size D (i64s v)) (hl : v.length = m) (hc : m ≤ c) (hm : c ≤ maxLen) (hf : Wm.Fits v) (f : Fr (b8 + 1) D) :
  Ofs w (W.setCell ⟨b8,23,none⟩ (.slice D m c)) A n cap at_ err b7 b8 ns { x with id:=v } { l with A3:=D,n3:=m,c3:=c }:=by
 have q:=h.ms
 have o:=q.ok
 exact h.set (p:=23) (xs:=(mvs x l).take 23) (ys:=[.slice l.A3 l.n3 l.c3]) (cs:=[.slice D m c])
  (zs:=[.slice l.A4 l.n4 l.c4,.slice l.A5 l.n5 l.c5]) rfl rfl rfl rfl
  ⟨⟨o.k,o.f,o.t,o.e,o.b,o.a,o.n,o.ti,o.up,o.co,o.plan,hf,o.se,o.pa⟩,q.pl,hr,hl,hc,hm,q.r4,q.l4,q.c4,q.m4,q.r5,q.l5,q.c5,q.m5⟩ ⟨h.fr.f1,h.fr.f2,f,h.fr.f4,h.fr.f5⟩
theorem Ofs.se (h : Ofs w W A n cap at_ err b7 b8 ns x l) (v : List Int) (D : Option Addr) (m c : Nat) (hr : Rd W W.heap.size D (u8s v)) (hl : v.length = m) (hc : m ≤ c) (hm : c ≤ maxLen) (hf : Fm.By v) (f : Fr (b8 + 1) D) :
  Ofs w (W.setCell ⟨b8,24,none⟩ (.slice D m c)) A n cap at_ err b7 b8 ns { x with se:=v } { l with A4:=D,n4:=m,c4:=c }:=by
 have q:=h.ms
 have o:=q.ok
 exact h.set (p:=24) (xs:=(mvs x l).take 24) (ys:=[.slice l.A4 l.n4 l.c4]) (cs:=[.slice D m c])
  (zs:=[.slice l.A5 l.n5 l.c5]) rfl rfl rfl rfl
  ⟨⟨o.k,o.f,o.t,o.e,o.b,o.a,o.n,o.ti,o.up,o.co,o.plan,o.id,hf,o.pa⟩,q.pl,q.r3,q.l3,q.c3,q.m3,hr,hl,hc,hm,q.r5,q.l5,q.c5,q.m5⟩ ⟨h.fr.f1,h.fr.f2,h.fr.f3,f,h.fr.f5⟩
theorem Ofs.pa (h : Ofs w W A n cap at_ err b7 b8 ns x l) (v : List Int) (D : Option Addr) (m c : Nat) (hr : Rd W W.heap.size D (u8s v)) (hl : v.length = m) (hc : m ≤ c) (hm : c ≤ maxLen) (hf : Fm.By v) (f : Fr (b8 + 1) D) :
  Ofs w (W.setCell ⟨b8,25,none⟩ (.slice D m c)) A n cap at_ err b7 b8 ns { x with pa:=v } { l with A5:=D,n5:=m,c5:=c }:=by
 have q:=h.ms
 have o:=q.ok
 exact h.set (p:=25) (xs:=(mvs x l).take 25) (ys:=[.slice l.A5 l.n5 l.c5]) (cs:=[.slice D m c])
  (zs:=[]) rfl rfl rfl rfl
  ⟨⟨o.k,o.f,o.t,o.e,o.b,o.a,o.n,o.ti,o.up,o.co,o.plan,o.id,o.se,hf⟩,q.pl,q.r3,q.l3,q.c3,q.m3,q.r4,q.l4,q.c4,q.m4,hr,hl,hc,hm⟩ ⟨h.fr.f1,h.fr.f2,h.fr.f3,h.fr.f4,f⟩
theorem Ofs.cell (h:Ofs w W A n cap at_ err b7 b8 ns x l) (j:Nat) {v:Value} (hv:(mvs x l)[j]? = some v):W.cell? ⟨b8,j,none⟩=some v∧W.frozen? ⟨b8,j,none⟩=false:=by
 have hj:j < 26:=by
  have:=(List.getElem?_eq_some_iff.1 hv).1
  rwa [zmx] at this
 have:=(h.t8 j hj).2
 rw [Nat.zero_add] at this
 exact ⟨ze0 h.m8 j hv,this⟩
end
theorem Ofs.start {w W2 W3 : World} {A : Option Addr} {n cap : Nat} {at_ err : Int} {ns : List Int} (hf : Wm.Fits ns) (t4 : W2.there w.heap.size 0 26) (hr : Rdr W2 (w.heap.size + 1) A n cap at_ err) (hz : w.heap.size + 2 ≤ W2.heap.size) (bel : Below w.heap.size w W2)
  (hb:Below (W2.alloc (.cells (i64s ns).toArray 126)).heap.size (W2.alloc (.cells (i64s ns).toArray 126)) W3) :
  Ofs w (W3.alloc (.cells (mvs (Mm.msOf 0 ns) Lo.zero).toArray 37)) A n cap at_ err W2.heap.size W3.heap.size ns (Mm.msOf 0 ns) Lo.zero:=by
 have hz1:(W2.alloc (.cells (i64s ns).toArray 126)).heap.size=W2.heap.size+1:=World.size_alloc ..
 have hz3:=hb.size
 rw [hz1] at hz3
 have b2:Below W2.heap.size W2 (W2.alloc (.cells (i64s ns).toArray 126)):=(Below.refl _ _).alloc (Nat.le_refl _) _
 have b3:Below W2.heap.size W2 (W3.alloc (.cells (mvs (Mm.msOf 0 ns) Lo.zero).toArray 37)):=(b2.trans (hb.mono (by omega))).alloc (by omega) _
 have hz4:(W3.alloc (.cells (mvs (Mm.msOf 0 ns) Lo.zero).toArray 37)).heap.size=W3.heap.size+1:=World.size_alloc ..
 have b4:Below (W2.alloc (.cells (i64s ns).toArray 126)).heap.size (W2.alloc (.cells (i64s ns).toArray 126)) (W3.alloc (.cells (mvs (Mm.msOf 0 ns) Lo.zero).toArray 37)):=hb.alloc (by rw [hz1];exact hz3) _
 refine ⟨hr.below b3 (by omega),zdf (zct W2 (i64s ns) 126) b4 (by rw [hz1];exact Nat.lt_succ_self _),zct W3 _ _,?_,za9 t4 b3 (by omega),?_,LoFr.zero _,by omega,by omega,by omega,(bel.trans (b3.mono (by omega)))⟩
 ·have:=zby W3 (mvs (Mm.msOf 0 ns) Lo.zero) 37
  rwa [zmx] at this
 ·exact ⟨Mm.ok_msOf ⟨by decide,by decide⟩ hf,PlAt.zero _ _,Rd.nil _ _ _,rfl,Nat.le_refl _,Nat.zero_le _,Rd.nil _ _ _,rfl,Nat.le_refl _,Nat.zero_le _,Rd.nil _ _ _,rfl,Nat.le_refl _,Nat.zero_le _⟩
end Go.Proofs.YtponpgcpmlcdpaaGreatDoor
