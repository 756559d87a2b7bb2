import Derived.Test.YtponpgcpmlcdpaaGreatDoorBFs
import Derived.Test.YtponpgcpmlcdpaaGreatDoorBG
set_option maxRecDepth 100000
namespace Go.Proofs.YtponpgcpmlcdpaaGreatDoor
open Go.RowKit Go.Shelf
attribute [local go_sem] Oper.semAt_some
abbrev It:=(Int×List Int)×(Option Addr×Nat)×Nat
def itV (x:It):Value:=.slice x.2.1.1 x.1.2.length x.2.1.2
theorem zow (n : Nat) (v : Value) (w : World) (hv : ∃ A c m, v = .slice A c m) :
  CallsIn Fence.wide n Tryz.prog 77 #[v] w fun e w'=>e = .returned (.func (.func 92) #[] #[.pointer (some ⟨w.heap.size,0,none⟩)])∧w'=w.alloc (.cells #[v] 35):=by
 obtain ⟨A,c,m,rfl⟩:=hv
 refine callsIn_of_wp Tryz.func77 rfl trivial ?_ rfl
 simp only [Tryz.ntmps77,List.size_toArray,List.length_cons,List.length_nil,Nat.reduceAdd,Nat.reduceSub,Array.replicate_succ,Array.replicate_zero,List.push_toArray,List.append_toArray,List.nil_append,List.cons_append]
 gi_wp2
 go_ret
 exact ⟨rfl,rfl⟩
def KpI (Bu bsz:Nat) (A B:World):Prop:=(∀u,Boxed A Bu 35 u→Boxed B Bu 35 u)∧Below bsz A B
def MvI (A B:World):Prop:=Below A.heap.size A B
def YI (xs:List Int) (pre:List It) (x:It) (A0 A:World):Prop :=
 A.ownsRow A0.heap.size 5 1 (itV x) x.1.2.length (u8s x.1.2)∧x.2.2=(Fm.cat ((pre++[x]).map (·.1))).length∧x.2.2≤xs.length∧8 * (pre.length+1)≤x.2.2∧(0≤x.1.1∧x.1.1≤255)∧x.1.2.length≤8192
def recV (x:It):Value:=.agg #[.int .u8 x.1.1,itV x]
set_option maxHeartbeats 2000000 in
theorem zmi (fr : Nat) (h1 : 1 ≤ fr) (l Bu bsz : Nat) (J Jx : List It → World → Prop) (A : Option Addr) (n cap B : Nat) (xs : List Int) (W0 W : World)
  (hJM:∀s A B,J s A→MvI A B→J s B)
  (hY : ∀ pre x A0 A, J pre A0 → MvI A0 A → YI xs pre x A0 A → YieldAt Fence.wide (fr - 1) Tryz.prog l #[recV x, .int .i64 (x.2.2 : Int)] A fun e B =>
    (e = .returned (.bool true)∧J (pre++[x]) B∧KpI Bu bsz A B)∨(e = .returned (.bool false)∧Jx (pre++[x]) B))
  (hx:Rd W0 B A (u8s xs)) (hn:xs.length=n) (hnc:n≤cap) (hcap:cap≤maxLen) (hB:B≤bsz) (hbz:bsz≤W.heap.size) (hb:Fm.By xs) (ht:HTab W0) (hT:W0.heap.size≤bsz) (hW:Below bsz W0 W) (hBx:Boxed W Bu 35 (.slice A n cap)) (hJ:J [] W) :
  CallsIn Fence.wide fr Tryz.prog 92 #[.func (.yield l) #[] #[],.pointer (some ⟨Bu,0,none⟩)] W fun e W'=>(∃v,e = .returned v) ∧
   ((∃ys,ys.map (·.1)=Fm.al xs∧J ys W')∨(∃ys,True∧Jx ys W')):=by
 have HX:=Lib.hid hx
 have HN:=Lib.hid hn
 have HB:=Lib.hid hb
 have HT:=Lib.hid ht
 have hcap':=hcap
 unfold maxLen at hcap'
 clear hx hn hb ht
 refine callsIn_of_wp Tryz.func92 rfl trivial ?_ rfl
 simp only [Tryz.ntmps92,List.size_toArray,List.length_cons,List.length_nil,Nat.reduceAdd,Nat.reduceSub,Array.replicate_succ,Array.replicate_zero,List.push_toArray,List.append_toArray,List.nil_append,List.cons_append]
 gi_wp2
 gi_loopw [3] (fun ax wr=>∃(pre:List It) (m:Nat),ax = .int .i64 (m:Int)∧m≤n∧Hid (Fm.al xs=pre.map (·.1)++Fm.al (xs.drop m))∧Hid (m=(Fm.cat (pre.map (·.1))).length)∧8 * pre.length≤m∧Below bsz W0 wr∧bsz≤wr.heap.size∧Boxed wr Bu 35 (.slice A n cap)∧J pre wr)
  (fun ax _=>n - (intOf ax).toNat)
 case atStart=>exact ⟨[],0,rfl,by omega,Lib.hid rfl,Lib.hid rfl,by simp,hW,hbz,hBx,hJ⟩
 case round =>
  obtain ⟨pre,m,rfl,hm,hS,hC,h8,hbw,hbs,hbx,hj⟩:=hrel
  have hc:=hbx.cell
  have hf:=hbx.frozen
  have HG:=Lib.hid (callsIn_wide (n:=fr - 1).2 (FGet_any A n cap B xs (m:Int) wr (HX.out.below (hbw.mono hB)) HN.out hnc hcap (by omega) HB.out (HT.out.below hbw hT) (by omega) (by omega)))
  cases hg:Fm.g1 (xs.drop m) with
  | none =>
    have hE:=Fm.get_none (b:=xs) (n:=m) (by rw [HN.out];exact hm) hg
    have HS2:Hid (Fm.al xs=pre.map (·.1)):=by
     have h:=hS.out
     rw [Fm.znh hg,List.append_nil] at h
     exact h
    generalize Fm.get xs (m:Int)=q at HG hE
    obtain ⟨q1,q2,q3,q4⟩:=q
    dsimp only at HG hE
    have hq:(q4 != 0)=true:=by rw [bne_iff_ne];exact hE
    have HJ:=Lib.hid hj
    clear hS hg hE hj
    gi_wp2_with (gi_at_call 93;fail)
    refine ⟨trivial,HG.out.mono ?_⟩
    rintro e w1 ⟨v,rfl,hown,hb1⟩
    obtain ⟨Av,cv,rfl,-,-,-⟩:=za4 hown
    clear hown
    gi_wp2
    refine ⟨(fun _ h=>by cases h),?_⟩
    gi_wp2
    refine bodyPost_ret (results_none rfl _ _ _) rfl ?_
    exact ⟨⟨_,rfl⟩,.inl ⟨_,HS2.out.symm,hJM _ _ _ HJ.out hb1⟩⟩
  | some p =>
    obtain ⟨k,b⟩:=p
    have hE:=Fm.get_some (b:=xs) (n:=m) (by rw [HN.out];exact hm) HB.out hg
    obtain ⟨hl,hk,-,hle,-,-⟩:=Fm.zm7 (HB.out.drop m) hg
    rw [List.length_drop,HN.out] at hle
    rw [hE] at HG
    dsimp only at HG
    have HS2:Hid (Fm.al xs=(pre.map (·.1)++[(k,b)])++Fm.al (xs.drop (m+(b.length+8)))):=by
     have h:=hS.out
     rw [Fm.zng hg,drop_two] at h
     rw [List.append_assoc]
     exact h
    have HC2:Hid (m+(b.length+8)=(Fm.cat (pre.map (·.1)++[(k,b)])).length):=by
     show _=_
     rw [cat_more,←hC.out]
    have HJ:=Lib.hid hj
    have HBW:=Lib.hid hbw
    have HBX:=Lib.hid hbx
    clear hS hC hg hE hj hbw hbx
    gi_wp2_with (gi_at_call 93;fail)
    refine ⟨trivial,HG.out.mono ?_⟩
    rintro e w1 ⟨v,rfl,hown,hb1⟩
    obtain ⟨Av,cv,rfl,-,-,-⟩:=za4 hown
    have hyi:YI xs pre ((k,b),(Av,cv),m+(b.length+8)) wr w1:=⟨hown,by show _=_;rw [List.map_append];exact HC2.out,by show m+(b.length+8)≤_;rw [HN.out];omega,by show _≤m+(b.length+8);omega,hk,hl⟩
    obtain ⟨fn,tmps,assign,body,hy,hR⟩:=hY pre ((k,b),(Av,cv),m+(b.length+8)) wr w1 HJ.out hb1 hyi
    dsimp only [recV,itV] at hy
    rw [show (((m+(b.length+8):Nat)):Int)=(m:Int)+((b.length:Int)+8) by omega] at hy
    have HB1:=Lib.hid hb1
    clear hyi hown hb1
    gi_wp2
    refine hR.mono ?_
    rintro e W3 (⟨rfl,hJ3,hk3⟩|⟨rfl,hJx3⟩)
    ·gi_wp2
     have hbx1:Boxed w1 Bu 35 (.slice A n cap):=(HB1.out.block _ HBX.out.lt).trans HBX.out
     have hs3:=hk3.2.size
     have hs1:=HB1.out.size
     go_roundw
     case rel=>exact ⟨pre++[((k,b),(Av,cv),m+(b.length+8))],m+(b.length+8),by go_num,by omega,Lib.hid (by rw [List.map_append];exact HS2.out),Lib.hid (by rw [List.map_append];exact HC2.out),by simp;omega,(HBW.out.trans (HB1.out.mono hbs)).trans hk3.2,by omega,hk3.1 _ hbx1,hJ3⟩
     case measure=>simp [intOf];omega
    ·gi_wp2
     refine bodyPost_ret (results_none rfl _ _ _) rfl ?_
     exact ⟨⟨_,rfl⟩,.inr ⟨_,trivial,hJx3⟩⟩
end Go.Proofs.YtponpgcpmlcdpaaGreatDoor
namespace Go.Proofs.YtponpgcpmlcdpaaGreatDoor
open Go.RowKit Go.Shelf
attribute [local go_sem] Oper.semAt_some
theorem cells_of_cell {w:World} {a:Addr} {v:Value} (h:w.cell? a=some v):∃c t fz,w.heap[a.block]? = some (Obj.cells c t fz):=by
 unfold World.cell? at h
 split at h
 ·rename_i c t fz e;exact ⟨c,t,fz,e⟩
 ·cases h
theorem Acc.others {base:Nat} {w w':World} {kv bv:Value} {ks:List Int} {bs:List (List Int)} (h:Acc base w kv bv ks bs) {row:Option Nat} (hg:w.grownBy w' row) (hr:∀r,row=some r→∃o:Obj,w.heap[r]? = some o∧o.isCells=false):Acc base w' kv bv ks bs:=by
 obtain ⟨vs,h1,h2,h3,h4,h5⟩:=h
 have hs:=hg.size
 have cellsKept:∀g c t fz,w.heap[g]? = some (Obj.cells c t fz)→w'.heap[g]? = w.heap[g]?:=fun g c t fz e=>hg.block g (Array.getElem?_eq_some_iff.1 e).1 fun er=>by
  obtain ⟨o,ho,hc⟩:=hr g er.symm
  rw [e] at ho
  cases ho
  cases hc
 have ownKept:∀ {e:TypeId} {v:Value} {n:Nat} {xs:List Value},w.ownsRow base e 1 v n xs→w'.ownsRow base e 1 v n xs:=fun {e v n xs} ho=>by
  refine zb2 ho fun g eg => ?_
  rcases ho.2 with ⟨rfl,_⟩|⟨g',cap,cur,rfl,_,hgb,_⟩
  ·cases eg
  ·cases eg
   exact cellsKept _ _ _ _ hgb
 refine ⟨vs,ownKept h1,ownKept h2,h3,by omega,fun j v b hv hb => ?_⟩
 obtain ⟨A,c,e,q1,q2,q3⟩:=h5 j v b hv hb
 refine ⟨A,c,e,q1,q2,fun i u hi => ?_⟩
 obtain ⟨ad,ea,ok,hc⟩:=q3 i u hi
 refine ⟨ad,ea,⟨ok.1,by omega,ok.2.2⟩,?_⟩
 obtain ⟨c2,t2,f2,e2⟩:=cells_of_cell hc
 exact (World.cell?_of_block (cellsKept _ _ _ _ e2)).trans hc
theorem Bod.others {w w':World} {ok ok':Nat→Prop} {v:Value} {b:List Int} (h:Bod w ok v b) {row:Option Nat} (hg:w.grownBy w' row) (hr:∀r,row=some r→∃o:Obj,w.heap[r]? = some o∧o.isCells=false) (hk:∀g,ok g→ok' g):Bod w' ok' v b:=by
 obtain ⟨A,c,e,q1,q2,q3⟩:=h
 refine ⟨A,c,e,q1,q2,fun i u hi => ?_⟩
 obtain ⟨ad,ea,ok,hc⟩:=q3 i u hi
 refine ⟨ad,ea,hk _ ok,?_⟩
 obtain ⟨c2,t2,f2,e2⟩:=cells_of_cell hc
 refine (World.cell?_of_block (hg.block _ (Array.getElem?_eq_some_iff.1 e2).1 fun er => ?_)).trans hc
 obtain ⟨o,ho,hc⟩:=hr _ er.symm
 rw [e2] at ho
 cases ho
 cases hc
theorem stage {W w1 : World} {bk B : Nat} {t : TypeId} {v : Value} {tmp : Obj} (v' : Value) (hbB : bk ≤ B) (hBx : Boxed W B t v) (hB4 : B < bk + 4) (h4 : bk + 4 ≤ W.heap.size) (hg : (W.alloc tmp).grownBy w1 v.ownBlock)
  (hrow:∀g,v.ownBlock=some g→bk+4≤g∧∃c tt fz,(W.alloc tmp).heap[g]? = some (Obj.cells c tt fz)) :
  Boxed w1 B t v∧Boxed (w1.setCell ⟨B,0,none⟩ v') B t v'∧(∀B' t' u,B' < bk+4→B'≠B→Boxed W B' t' u→Boxed (w1.setCell ⟨B,0,none⟩ v') B' t' u)∧KeepsOthers W (w1.setCell ⟨B,0,none⟩ v') ∧
   Below bk W (w1.setCell ⟨B,0,none⟩ v')∧(∀g,bk+4≤g→(w1.setCell ⟨B,0,none⟩ v').heap[g]? = w1.heap[g]?)∧(∀g,bk+4≤g→g < W.heap.size→v.ownBlock≠some g→(w1.setCell ⟨B,0,none⟩ v').heap[g]? = W.heap[g]?):=by
 have hne:∀B',B' < bk+4→some B'≠v.ownBlock:=fun B' h e=>by have:=(hrow B' e.symm).1;omega
 have k1:Boxed w1 B t v:=(hBx.alloc tmp).kept hg (hne B hB4)
 have hset:∀g,bk+4≤g→(w1.setCell ⟨B,0,none⟩ v').heap[g]? = w1.heap[g]?:=fun g h=>Below.heap_setCell _ _ _ g (by dsimp only;omega)
 refine ⟨k1,k1.set v',fun B' t' u h h' hb=>((hb.alloc tmp).kept hg (hne B' h)).other h' v',?_,?_,hset,fun g h h' hn => ?_⟩
 ·refine ((KeepsOthers.alloc W tmp).trans (KeepsOthers.of_grownBy hg fun j o ej hj => ?_)).trans (KeepsOthers.setCell _ _ _)
  obtain ⟨_,c,tt,fz,e⟩:=hrow j ej
  rw [e] at hj
  cases hj
  rfl
 ·exact (((Below.refl bk W).alloc (by omega) tmp).grown hg (by simp;omega) (fun j ej=>by have:=(hrow j ej).1;omega)).setCell (p:=⟨B,0,none⟩) hbB v'
 ·exact (hset g h).trans ((hg.block g (by simp;omega) (fun e=>hn e.symm)).trans (Below.heap_alloc _ _ _ h'))
theorem Acc.rows {base:Nat} {w:World} {kv bv:Value} {ks:List Int} {bs:List (List Int)} (h:Acc base w kv bv ks bs):(∀g,kv.ownBlock=some g→base≤g∧∃c tt fz,w.heap[g]? = some (Obj.cells c tt fz))∧(∀g,bv.ownBlock=some g→base≤g∧∃c tt fz,w.heap[g]? = some (Obj.cells c tt fz)):=by
 obtain ⟨vs,h1,h2,-⟩:=h
 have one:∀ {e:TypeId} {v:Value} {n:Nat} {xs:List Value},w.ownsRow base e 1 v n xs→∀g,v.ownBlock=some g→base≤g∧∃c tt fz,w.heap[g]? = some (Obj.cells c tt fz):=fun {e v n xs} ho g eg=>by
  rcases ho.2 with ⟨rfl,_⟩|⟨g',cap,cur,rfl,hb,hgb,_⟩
  ·cases eg
  ·cases eg
   exact ⟨hb,_,_,_,hgb⟩
 exact ⟨one h1,one h2⟩
theorem Acc.mono {base base':Nat} {w:World} {kv bv:Value} {ks:List Int} {bs:List (List Int)} (h:Acc base w kv bv ks bs) (hb:base'≤base):Acc base' w kv bv ks bs:=by
 obtain ⟨vs,h1,h2,h3,h4,h5⟩:=h
 refine ⟨vs,zb3 h1 hb,zb3 h2 hb,h3,by omega,fun j v b hv hb'=>(h5 j v b hv hb').keep fun g hg=>⟨rfl,by omega,hg.2⟩⟩
theorem zmh (fr : Nat) (h1 : 1 ≤ fr) (Bu bsz : Nat) (A : Option Addr) (n cap B : Nat) (xs : List Int) (W0 w : World)
  (hx:Rd W0 B A (u8s xs)) (hn:xs.length=n) (hnc:n≤cap) (hcap:cap≤maxLen) (hB:B≤bsz) (hb:Fm.By xs) (ht:HTab W0) (hT:W0.heap.size≤bsz) (hbz:bsz≤w.heap.size) (hW:Below bsz W0 w) (hlt:Bu < w.heap.size) (hBx:Boxed w Bu 35 (.slice A n cap)) :
  SeqG Fence.wide fr Tryz.prog 92 #[.pointer (some ⟨Bu,0,none⟩)] (fun x:It => #[recV x,.int .i64 (x.2.2:Int)]) (YI xs) MvI (KpI Bu bsz) (fun ys=>ys.map (·.1)=Fm.al xs) (fun _=>True) w:=fun l J Jx W hWb hJM _ hY hJ =>
 zmi fr h1 l Bu bsz J Jx A n cap B xs W0 W hJM hY hx hn hnc hcap hB (Nat.le_trans hbz hWb.size) hb ht hT (hW.trans (hWb.mono hbz)) ((hWb.block Bu hlt).trans hBx) hJ
theorem zb9 {W W':World} {B:Nat} {t:TypeId} {v:Value} (h:Boxed W B t v) {row:Option Nat} (hg:W.grownBy W' row) (hr:∀r,row=some r→∃o:Obj,W.heap[r]? = some o∧o.isCells=false):Boxed W' B t v :=
 h.kept hg fun e=>by
  obtain ⟨o,ho,hc⟩:=hr B e.symm
  rw [show W.heap[B]? = _ from h] at ho
  cases ho
  cases hc
theorem zcj {W W':World} {B:Nat} {t:TypeId} {v:Value} (h:Boxed W B t v) (hb:Below W.heap.size W W'):Boxed W' B t v:=(hb.block _ h.lt).trans h
def InvI (bk:Nat) (w:World) (pre:List It) (W:World):Prop :=
 (∃ kv bv, Boxed W bk 35 kv ∧ Boxed W (bk + 1) 83 bv ∧ Acc (bk + 4) W kv bv (pre.map (·.1.1)) (pre.map (·.1.2))) ∧
   Boxed W (bk+1+1) 3 (.int .i64 (((Fm.cat (pre.map (·.1))).length:Nat):Int))∧(∃u,Boxed W (bk+3) 35 u)∧Below bk w W
theorem InvI.own (bk B:Nat) (w:World) (hB:bk≤B):OwnFrom B (InvI bk w):=fun s W W' row ⟨⟨kv,bv,h1,h2,h3⟩,h4,⟨u,h5⟩,h6⟩ hg hr =>
 ⟨⟨kv,bv,zb9 h1 hg (fun r e=>(hr r e).2),zb9 h2 hg (fun r e=>(hr r e).2),h3.others hg (fun r e=>(hr r e).2)⟩,zb9 h4 hg (fun r e=>(hr r e).2),⟨u,zb9 h5 hg (fun r e=>(hr r e).2)⟩,
  h6.grown hg (by have:=h1.lt;omega) (fun r e=>by have:=(hr r e).1;omega)⟩
theorem InvI.moved {bk:Nat} {w:World} {s:List It} {A B:World} (h:InvI bk w s A) (m:MvI A B):InvI bk w s B:=by
 obtain ⟨⟨kv,bv,h1,h2,h3⟩,h4,⟨u,h5⟩,h6⟩:=h
 exact ⟨⟨kv,bv,(m.block _ h1.lt).trans h1,(m.block _ h2.lt).trans h2,h3.below m⟩,(m.block _ h4.lt).trans h4,⟨u,(m.block _ h5.lt).trans h5⟩,h6.trans (m.mono (by have:=h1.lt;omega))⟩
set_option maxHeartbeats 2000000 in
theorem All_in (A0 : Option Addr) (n cap B : Nat) (xs : List Int) (w : World) (hx : Rd w B A0 (u8s xs)) (hn : xs.length = n) (hnc : n ≤ cap) (hcap : cap ≤ maxLen) (hB : B ≤ w.heap.size) (hb : Fm.By xs) (ht : HTab w) (hsm : n ≤ 4194304) :
  CallsIn Fence.wide 4 Tryz.prog 53 #[.slice A0 n cap] w fun e w'=>∃kv bv,e = .returned (.tuple #[kv,bv,.int .i64 (((Fm.cat (Fm.al xs)).length:Nat):Int)]) ∧
   Acc w.heap.size w' kv bv ((Fm.al xs).map (·.1)) ((Fm.al xs).map (·.2))∧Below w.heap.size w w':=by
 obtain ⟨i0,hi,hz0,hz1,hz2⟩:=info_parts zci
 obtain ⟨ti,hti,hy0,hy1,hy2⟩:=zkh
 refine callsIn_of_wp_marks Tryz.func53 rfl trivial ?_ rfl
 simp only [Tryz.ntmps53,List.size_toArray,List.length_cons,List.length_nil,Nat.reduceAdd,Nat.reduceSub,Array.replicate_succ,Array.replicate_zero,List.push_toArray,List.append_toArray,List.nil_append,List.cons_append]
 gi_wp2_with (gi_at_call 77;fail)
 obtain ⟨bk,hbk⟩ : ∃bk,bk=w.heap.size:=⟨_,rfl⟩
 have b0:=Boxed.new w 35 (.slice none 0 0)
 have b1:=Boxed.new (w.alloc (.cells #[.slice none 0 0] 35)) 83 (.slice none 0 0)
 have b2:=Boxed.new ((w.alloc (.cells #[.slice none 0 0] 35)).alloc (.cells #[.slice none 0 0] 83)) 3 (.int .i64 0)
 have hb3:Below w.heap.size w (((w.alloc (.cells #[.slice none 0 0] 35)).alloc (.cells #[.slice none 0 0] 83)).alloc (.cells #[.int .i64 0] 3)):=(((Below.refl _ w).alloc (Nat.le_refl _) _).alloc (by simp) _).alloc (by simp;omega) _
 replace b0:=(b0.alloc (.cells #[.slice none 0 0] 83)).alloc (.cells #[.int .i64 0] 3)
 replace b1:=b1.alloc (.cells #[.int .i64 0] 3)
 have hs3:(((w.alloc (.cells #[.slice none 0 0] 35)).alloc (.cells #[.slice none 0 0] 83)).alloc (.cells #[.int .i64 0] 3)).heap.size=bk+3:=by simp [hbk]
 simp only [World.size_alloc] at b0 b1 b2
 rw [←hbk] at b0 b1 b2 hb3 hB ⊢
 generalize (((w.alloc (.cells #[.slice none 0 0] 35)).alloc (.cells #[.slice none 0 0] 83)).alloc (.cells #[.int .i64 0] 3))=w3 at *
 refine ⟨trivial,(zow _ _ _ ⟨_,_,_,rfl⟩).mono ?_⟩
 rintro e w4 ⟨rfl,hw4⟩
 have b3:Boxed w4 (bk+3) 35 (.slice A0 n cap):=by have:=Boxed.new w3 35 (.slice A0 n cap);rw [hs3,←hw4] at this;exact this
 have c0:Boxed w4 bk 35 (.slice none 0 0):=by rw [hw4];exact b0.alloc _
 have c1:Boxed w4 (bk+1) 83 (.slice none 0 0):=by rw [hw4];exact b1.alloc _
 have c2:Boxed w4 (bk+1+1) 3 (.int .i64 0):=by rw [hw4];exact b2.alloc _
 have hb4:Below bk w w4:=by rw [hw4];exact hb3.alloc (by omega) _
 have hs4:w4.heap.size=bk+4:=by rw [hw4];simp [hs3]
 have HBK:=Lib.hid hbk
 clear hw4 b0 b1 b2 hb3 hbk
 gi_wp2_with fail
 refine zfw rfl (by omega) (gf:=92) (lb := #[.pointer (some ⟨bk+3,0,none⟩)]) rfl trivial (enters_of Tryz.func92 (by kernel_rfl) rfl)
  (zmh 3 (by omega) (bk+3) bk A0 n cap B xs w w4 hx hn hnc hcap hB hb ht (by have:=HBK.out;omega) (by omega) hb4 (by omega) b3) (Below.refl _ _) (fun _=>rfl)
  (fun A B h k o _ ho _=>(h.block k (Array.getElem?_eq_some_iff.1 ho).1).trans ho)
  (fun A B C h1 h2=>⟨fun u hu=>h2.1 u (h1.1 u hu),h1.2.trans h2.2⟩)
  (fun A k o o' hk ho hc=>⟨fun u hu=>hu.kept (grownBy_putObj' A k o') (by intro e;cases e;omega),(Below.refl _ _).grown (grownBy_putObj' A k o') (by have:=(Array.getElem?_eq_some_iff.1 ho).1;omega) (fun r e=>by cases e;omega)⟩)
  (fun A B hA hAB=>⟨fun u hu=>(hAB.block _ hu.lt).trans hu,hAB.mono (by omega)⟩)
  (InvI bk w) (fun _ _ _=>False) (InvI.own bk _ w (by omega)) (fun _ _ _ _ _ hs _ _=>hs) (fun s A B h m=>h.moved m) (fun _ _ _ _ h _=>h)
  ⟨⟨_,_,c0,c1,Acc.nil _ _ (by omega)⟩,c2,⟨_,b3⟩,hb4⟩
  (fun x A A1=>A1.cell? ⟨A.heap.size,0,none⟩=some (.int .u8 x.1.1)∧A1.cell? ⟨A.heap.size,1,none⟩=some (itV x))
  (fun x A=>{ tmps := #[.slice A0 n cap,undef,.slice none 0 0,.slice none 0 0,.int .i64 0,.pointer (some ⟨bk,0,none⟩),.pointer (some ⟨bk+1,0,none⟩),.pointer (some ⟨bk+1+1,0,none⟩),.pointer (some ⟨A.heap.size,0,none⟩),.int .i64 (x.2.2:Int),.slice A0 n cap,.func (.func 92) #[] #[.pointer (some ⟨bk+3,0,none⟩)],recV x,.int .i64 (x.2.2:Int),undef,undef,undef,undef,undef,undef,undef,undef,undef,undef,undef,undef,undef,undef],defers:=[] }) ?assign ?body ?done ?stop
 case stop =>
  rintro D c pre W _ _ h _
  exact h.elim
 case assign =>
  intro l x W K hK
  obtain ⟨⟨k,b⟩,⟨Av,cv⟩,m⟩:=x
  dsimp only [recV,itV] at hK ⊢
  gi_wp2
  refine hK _ ((Below.refl _ _).alloc (Nat.le_refl _) _) ?_
  have hn:=World.news_of_block (heap_alloc_new W (.cells #[.int .u8 k,.slice Av b.length cv] 119))
  exact ⟨hn 0 _ rfl,hn 1 _ rfl⟩
 case body =>
  intro l pre x A A1 A2 k o o' hI hMv hY hBel hAsg hk1 hk2 hko hoc
  obtain ⟨⟨kd,b⟩,⟨Av,cv⟩,m⟩:=x
  obtain ⟨⟨kv,bv,i1,i2,i3⟩,i4,⟨u,i5⟩,i6⟩:=hI
  obtain ⟨y1,y2,y3,y4,y5,y6⟩:=hY
  dsimp only [recV,itV] at *
  have hgp:=grownBy_putObj' A2 k o'
  have hrp:∀r,some k=some r→∃o:Obj,A2.heap[r]? = some o∧o.isCells=false:=fun r e=>by cases e;exact ⟨o,hko,hoc⟩
  have s1:=hMv.size
  have s2:=hBel.size
  have j1:=zb9 (zcj (zcj i1 hMv) hBel) hgp hrp
  have j2:=zb9 (zcj (zcj i2 hMv) hBel) hgp hrp
  have j4:=zb9 (zcj (zcj i4 hMv) hBel) hgp hrp
  have j5:=zb9 (zcj (zcj i5 hMv) hBel) hgp hrp
  have hbs:=i5.lt
  have accW:=((i3.below hMv).below hBel).others hgp hrp
  have bodW:=((Bod.fresh i3 s1 y1).keep (w':=A2) (fun g hg=>⟨hBel.block g hg.2.1,hg⟩)).others (ok':=fun g=>bk+4≤g∧g < A1.heap.size∧kv.ownBlock≠some g∧bv.ownBlock≠some g) hgp hrp (fun g hg=>hg)
  have r0:(A2.putObj k o').cell? ⟨A1.heap.size,0,none⟩=some (.int .u8 kd):=(World.cell?_of_block (World.putObj_heap_other (by dsimp only;omega))).trans hAsg.1
  have r1:(A2.putObj k o').cell? ⟨A1.heap.size,1,none⟩=some (.slice Av b.length cv):=(World.cell?_of_block (World.putObj_heap_other (by dsimp only;omega))).trans hAsg.2
  have hbW:Below bk w (A2.putObj k o'):=((i6.trans (hMv.mono (by omega))).trans (hBel.mono (by omega))).grown hgp (by omega) (fun r e=>by cases e;omega)
  have hsW:(A2.putObj k o').heap.size=A2.heap.size:=World.putObj_size
  have hA1:A1.heap.size < A2.heap.size:=by
   obtain ⟨c,tt,fz,e⟩:=cells_of_cell hAsg.1
   exact (Array.getElem?_eq_some_iff.1 e).1
  have hkA:∀g,kv.ownBlock=some g→g < A.heap.size:=fun g e=>by obtain ⟨vs,h1,-⟩:=i3;exact (h1.lt g e).2
  have hbA:∀g,bv.ownBlock=some g→g < A.heap.size:=fun g e=>by obtain ⟨vs,h1,h2,-⟩:=i3;exact (h2.lt g e).2
  generalize A2.putObj k o'=W at *
  rw [←hsW] at hA1
  have hl1:(List.map (fun x:It=>x.1.1) pre).length=pre.length:=by simp
  have hl2:(List.map (fun x:It=>x.1.2) pre).length=pre.length:=by simp
  have hpl:pre.length≤600000:=by omega
  have accB:=accW.below ((Below.refl W.heap.size W).alloc (Nat.le_refl _) (.cells #[.int .u8 kd] 5))
  have h4:bk+4≤W.heap.size:=by omega
  have f1:=j1.cell
  clear hsW s2
  have bodB:=bodW.keep (w':=W.alloc (.cells #[.int .u8 kd] 5)) (ok':=fun g=>bk+4≤g∧g < (W.alloc (.cells #[.int .u8 kd] 5)).heap.size∧kv.ownBlock≠some g∧bv.ownBlock≠some g) (fun g hg=>⟨Below.heap_alloc _ _ _ (by omega),hg.1,by simp;omega,hg.2.2⟩)
  have own1:=accB.parts.1
  rw [hl1] at own1
  have HI6:=Lib.hid i6
  have HY2:=Lib.hid y2
  have HJ:=Lib.hid (And.intro j2 (And.intro j4 j5))
  have HACC:=Lib.hid accB
  have HBOD:=Lib.hid bodB
  have HBW:=Lib.hid hbW
  have HR1:=Lib.hid r1
  have HJ1:=Lib.hid j1
  clear hMv hBel hAsg hko hoc i1 i2 i3 i4 i5 i6 y1 y2 hgp hrp accW bodW accB bodB hbW r1 j1 j2 j4 j5 hx hn hb ht hcap hnc b3 c0 c1 c2 hb4
  gi_wp2_with (first
   |(gi_at_builtin;refine zg5 rfl _ _ 35 rfl (bk+4) 5 i0 (.int .u8 0) 1 Tryz.underlying35 hi hz0 hz1 hz2 rfl _ _ _ rfl own1 (W.heap.size+1) (some ⟨W.heap.size,0,none⟩) 1 1 [.int .u8 kd] rfl rfl (by exact Rd.new W (W.heap.size+1) [.int .u8 kd] 5 (0,0) (by omega)) (by simp [Value.oneCell']) (by unfold maxLen;omega) (by omega) (by simp;omega) ?_;intro kv' w1 hown1 hgrow1 hblk1;obtain ⟨g1,q1,rfl⟩:=ownsRow_succ hown1;have ST1:=stage (.slice (some ⟨g1,0,none⟩) (pre.length+1) q1) (Nat.le_refl bk) HJ1.out (by omega) h4 hgrow1 HACC.out.rows.1;have hc1:=ST1.1.cell;have hf1:=ST1.1.frozen;have hs1:=ST1.2.2.2.1.size;have hc2:=(ST1.2.2.1 (bk+1) _ _ (by omega) (by omega) HJ.out.1).cell;have rr1:=(World.cell?_of_block (a:=⟨A1.heap.size,1,none⟩) (ST1.2.2.2.2.2.2 A1.heap.size (by omega) hA1 (fun e=>by have:=hkA _ e;omega))).trans HR1.out;have accC:=Acc.kinds HACC.out hgrow1 (by rw [hl1];exact hown1) hblk1;have accD:=accC.keep (KeepsOthers.setCell w1 ⟨bk,0,none⟩ (.slice (some ⟨g1,0,none⟩) (pre.length+1) q1)).size (fun g hg _=>ST1.2.2.2.2.2.1 g hg);have hz1':(w1.setCell ⟨bk,0,none⟩ (.slice (some ⟨g1,0,none⟩) (pre.length+1) q1)).heap.size=w1.heap.size:=(by simp [World.setCell]);have accE:=accD.below ((Below.refl _ _).alloc (Nat.le_refl _) (.cells #[.slice Av b.length cv] 35));obtain ⟨us,hus⟩:=accE.parts.2;rw [hl2] at hus;have HZ1:=Lib.hid hz1';clear hz1')
   |(gi_at_builtin;refine zg5 rfl _ _ 83 rfl (bk+4) 35 ti (.slice none 0 0) 24 Tryz.underlying83 hti hy0 hy1 hy2 rfl _ _ _ rfl hus (w1.heap.size+1) (some ⟨w1.heap.size,0,none⟩) 1 1 [.slice Av b.length cv] rfl rfl (by have h:=Rd.new (w1.setCell ⟨bk,0,none⟩ (.slice (some ⟨g1,0,none⟩) (pre.length+1) q1)) (w1.heap.size+1) [.slice Av b.length cv] 35 (0,0) (by rw [HZ1.out];omega);rw [HZ1.out] at h;exact h) (by simp [Value.oneCell']) (by unfold maxLen;omega) (by omega) (by rw [World.size_alloc,HZ1.out];have:=ST1.2.2.2.1.size;rw [HZ1.out] at this;omega) ?_;intro bv' w2 hown2 hgrow2 hblk2;obtain ⟨g2,q2,rfl⟩:=ownsRow_succ hown2;have ST2:=stage (.slice (some ⟨g2,0,none⟩) (pre.length+1) q2) (Nat.le_add_right bk 1) (ST1.2.2.1 (bk+1) _ _ (by omega) (by omega) HJ.out.1) (by omega) (Nat.le_trans h4 ST1.2.2.2.1.size) hgrow2 accE.rows.2;have hc3:=ST2.1.cell;have hf3:=ST2.1.frozen;have bx:=ST2.2.2.1 (bk+1+1) _ _ (by omega) (by omega) (ST1.2.2.1 (bk+1+1) _ _ (by omega) (by omega) HJ.out.2.1);have hc4:=bx.cell;have hf4:=bx.frozen)
   |fail)
  obtain ⟨p1,p2,p3,p4,p5,p6,p7⟩:=ST1
  obtain ⟨r1,r2,r3,r4,r5,r6,r7⟩:=ST2
  have bodC:=Bod.kinds HBOD.out hgrow1 hblk1
  have bodD:=bodC.keep (w':=w1.setCell ⟨bk,0,none⟩ (.slice (some ⟨g1,0,none⟩) (pre.length+1) q1)) (ok':=fun g=>bk+4≤g∧g < (w1.setCell ⟨bk,0,none⟩ (.slice (some ⟨g1,0,none⟩) (pre.length+1) q1)).heap.size∧(Value.slice (some ⟨g1,0,none⟩) (pre.length+1) q1).ownBlock≠some g∧bv.ownBlock≠some g) (fun g hg=>⟨p6 g hg.1,hg.1,by rw [HZ1.out];exact hg.2.1,hg.2.2⟩)
  have bodE:=bodD.keep (w':=(w1.setCell ⟨bk,0,none⟩ (.slice (some ⟨g1,0,none⟩) (pre.length+1) q1)).alloc (.cells #[.slice Av b.length cv] 35)) (ok':=fun g=>bk+4≤g∧g < ((w1.setCell ⟨bk,0,none⟩ (.slice (some ⟨g1,0,none⟩) (pre.length+1) q1)).alloc (.cells #[.slice Av b.length cv] 35)).heap.size∧(Value.slice (some ⟨g1,0,none⟩) (pre.length+1) q1).ownBlock≠some g∧bv.ownBlock≠some g) (fun g hg=>⟨Below.heap_alloc _ _ _ hg.2.1,hg.1,by rw [World.size_alloc];have:=hg.2.1;omega,hg.2.2⟩)
  have accF:=Acc.bodies accE bodE (by rw [hl2];exact hus) hgrow2 (by rw [hl2];exact hown2) hblk2
  have accG:=accF.keep (KeepsOthers.setCell w2 ⟨bk+1,0,none⟩ (.slice (some ⟨g2,0,none⟩) (pre.length+1) q2)).size (fun g hg _=>r6 g hg)
  have accH:=accG.keep (KeepsOthers.setCell _ ⟨bk+1+1,0,none⟩ (.int .i64 (m:Int))).size (fun g hg _=>Below.heap_setCell _ _ _ g (by dsimp only;omega))
  have hbe:=(p5.trans r5).setCell (p:=⟨bk+1+1,0,none⟩) (by dsimp only;omega) (.int .i64 (m:Int))
  have box:∀t u,Boxed W (bk+3) t u→Boxed ((w2.setCell ⟨bk+1,0,none⟩ (.slice (some ⟨g2,0,none⟩) (pre.length+1) q2)).setCell ⟨bk+1+1,0,none⟩ (.int .i64 (m:Int))) (bk+3) t u:=fun t u hu=>(r3 (bk+3) _ _ (by omega) (by omega) (p3 (bk+3) _ _ (by omega) (by omega) hu)).other (by omega) _
  refine ⟨((p4.trans r4).trans (KeepsOthers.setCell _ _ _)).from _,⟨fun u hu=>box _ u hu,hbe⟩,⟨_,_,(r3 bk _ _ (by omega) (by omega) p2).other (by omega) _,r2.other (by omega) _,?_⟩,?_,⟨_,box _ _ HJ.out.2.2⟩,HBW.out.trans hbe⟩
  ·rw [List.map_append,List.map_append]
   exact accH
  ·rw [←HY2.out]
   exact bx.set _
 case done =>
  rintro D ys W hD hys ⟨⟨kv,bv,i1,i2,i3⟩,i4,⟨u,i5⟩,i6⟩ hK
  have q1:=i1.cell
  have q2:=i2.cell
  have q3:=i4.cell
  have hKd:W.drew.heap[D]? = some (.deferred (some [])):=hK
  have a3:Acc (bk+4) W.drew kv bv (ys.map (·.1.1)) (ys.map (·.1.2)):=i3.keep (Nat.le_refl _) (fun _ _ _=>rfl)
  have a4:=a3.others (grownBy_putObj' W.drew D (.deferred none)) (fun r e=>by cases e;exact ⟨_,hKd,rfl⟩)
  have hbD:Below bk w (W.drew.putObj D (.deferred none)):=(za8 i6 1).grown (grownBy_putObj' W.drew D (.deferred none)) (by have:=i1.lt;show bk≤W.heap.size;omega) (fun r e=>by cases e;omega)
  have HA:=Lib.hid a4
  have HD:=Lib.hid hbD
  clear a3 a4 hbD i1 i2 i3 i4 i5 i6
  gi_wp2
  gi_region
  gi_wp2
  refine ⟨by simp,.inl ⟨_,_,rfl,run_takeDeferred hKd,?_⟩⟩
  refine ⟨_,results_tmp3 rfl _ _ _,kv,bv,?_,?_,?_⟩
  ·rw [←hys];rfl
  ·rw [←HBK.out,←hys,List.map_map,List.map_map]
   exact HA.out.mono (by omega)
  ·rw [←HBK.out]
   exact HD.out
theorem All_any (A : Option Addr) (n cap B : Nat) (xs : List Int) (w : World) (hx : Rd w B A (u8s xs)) (hn : xs.length = n) (hnc : n ≤ cap) (hcap : cap ≤ maxLen) (hB : B ≤ w.heap.size) (hb : Fm.By xs) (ht : HTab w) (hsm : n ≤ 4194304) :
  Calls Tryz.prog 53 #[.slice A n cap] w fun e w'=>∃kv bv,e = .returned (.tuple #[kv,bv,.int .i64 (((Fm.cat (Fm.al xs)).length:Nat):Int)]) ∧
   Acc w.heap.size w' kv bv ((Fm.al xs).map (·.1)) ((Fm.al xs).map (·.2))∧Below w.heap.size w w' :=
 callsIn_wide.1 (All_in A n cap B xs w hx hn hnc hcap hB hb ht hsm)
theorem Acc.outF {base : Nat} {w : World} {kv bv : Value} {fs : List (Int × List Int)} (h : Acc base w kv bv (fs.map (·.1)) (fs.map (·.2))) : ∃ A c vs A' c', kv = .slice A fs.length c ∧ bv = .slice A' fs.length c' ∧ (fs.length ≤ c ∧ c ≤ maxLen) ∧ (fs.length ≤ c' ∧ c' ≤ maxLen) ∧
  Rd w w.heap.size A (u8s (fs.map (·.1)))∧Rd w w.heap.size A' vs∧Bods w w.heap.size vs (fs.map (·.2)):=by
 obtain ⟨⟨A,c,e1,h1,h2,h3⟩,vs,A',c',e2,h4,h5,h6,h7⟩:=h.out
 rw [List.length_map] at e1 e2 h1 h4
 exact ⟨A,c,vs,A',c',e1,e2,⟨h1,h2⟩,⟨h4,h5⟩,h3,h6,h7⟩
end Go.Proofs.YtponpgcpmlcdpaaGreatDoor
