import Derived.Test.YtponpgcpmlcdpaaGreatDoorAz
import Derived.Test.YtponpgcpmlcdpaaGreatDoorGe
import Derived.Test.YtponpgcpmlcdpaaGreatDoorPn
namespace Go.Proofs.YtponpgcpmlcdpaaGreatDoor
open Go.RowKit Go.Shelf Km Kx Kc Kt
set_option linter.unusedVariables false
set_option linter.unusedSimpArgs false
theorem zkg (A:Option Addr):ze2 (zcl A 50 1000 20 40 5) [1,0]:=by
 refine ⟨?_,?_,?_,?_,?_,?_,?_,?_,?_,?_,?_,?_,?_,?_,?_,?_,?_,?_,?_,?_,?_,?_,?_,?_,?_,?_,?_,?_,?_,?_,?_⟩
 all_goals first | (simp only [zcl]; omega) | skip
 intro v hv
 simp only [List.mem_cons,List.not_mem_nil,or_false] at hv
 rcases hv with rfl | rfl <;> decide
theorem zeroP_no:¬ ze2 zeroC []:=fun h => by have:=h.targets.1; exact absurd this (by decide)
theorem pm_ok {k f t e b:Int} {p:Pt} (h:p.Fine) (hk:Pm.I k) (hf:Pm.I f) (ht:Pm.I t) (he:Pm.I e) (hb:Pm.I b):MsOk (pm k f t e b p.x) (loOf p) :=
 ⟨⟨hk,hf,ht,he,hb,I0,I0,I0,U0,I0,h.ok,(fun _ q => by cases q),Fm.By.nil,Fm.By.nil⟩,h.l1,h.c1,h.m1,h.l2,h.c2,h.m2,rfl,Nat.le_refl _,Nat.zero_le _,rfl,Nat.le_refl _,Nat.zero_le _,rfl,Nat.le_refl _,Nat.zero_le _⟩
theorem pm_in {p:Pt} {F:Fz} (h:Within p.fz F) {k f t e b:Int}:Within (mfz (pm k f t e b p.x) (loOf p)) F:=mk_in (k:=k) (e:=e) (b:=b) (ac:=0) (n:=0) (co:=0) (has:=true) h
theorem zmu {p:Pt} {N:Nat} {F:Fz} (hx:p.x = zp N) (h:(p.A,i64s p.x.pen) ∈ F):Within p.fz F:=fun q hq => by
 rcases List.mem_cons.1 hq with rfl | hq
 ·exact .inr h
 ·rcases List.mem_cons.1 hq with rfl | hq
  ·refine .inl ?_
   show i64s p.x.ch = []
   rw [hx]; rfl
  ·cases hq
theorem Within.more {G F F':Fz} (h:Within G F) (hs:∀ q ∈ F,q ∈ F'):Within G F':=fun q hq => (h q hq).imp id (hs q)
section
variable {w0 w:World} {ga g:Nat} {a:Ac} {L:List (Nat × List Value)} {r:List Rw} {F:Fz}
set_option maxRecDepth 100000 in
theorem zh4 (h:Bxs w0 w L r F) [hin:InL ga (a.cells g) L]:Calls Tryz.prog 9 #[.pointer (some ⟨ga,0,none⟩)] w fun e w' => e = .returned (.pointer (some ⟨g,0,none⟩)) ∧ Below w.heap.size w w':=by
 have HB:=Lib.hid (Bxs.start w)
 have HC:Hid (w.cell? ⟨ga,31,none⟩ = some (.pointer (some ⟨g,0,none⟩))):=h.cell hin.mem rfl
 clear h
 go_enter Tryz.func9,Tryz.ntmps9
 go_wp2_with (first | ((with_reducible refine zai HB ?_); clear HB; intro w_ HB) | ((with_reducible refine zaf ?_); (first | refine boxa HB rfl ?_ | refine boxt HB rfl rfl ?_ | refine box1 HB rfl rfl ?_); clear HB; intro b_ w_ HB; refine Kx.fr ?_) | ((with_reducible refine zaa ?_); (first | refine ala HB ?_ | refine al1 HB ?_); clear HB; intro b_ w_ HB; refine Kx.fr ?_) | ((with_reducible refine zab ?_); first | refine Kx.l1 HB rfl rfl ?_ | refine Kx.la HB rfl ?_ | refine Kx.lo HB rfl HC.out ?_) | ((with_reducible refine zac ?_); first | refine l1g HB rfl rfl rfl ?_ | refine Kx.lag HB rfl rfl ?_ | refine Kx.log HB rfl HC.out rfl ?_) | ((with_reducible refine zae ?_); (first | refine stwa HB rfl rfl ?_ | refine sta HB rfl rfl ?_ | refine Kx.stc HB rfl rfl ?_ | refine Kx.stt HB rfl rfl rfl ?_ | refine Kx.st1 HB rfl rfl rfl ?_); clear HB; intro w_ HB))
 go_ret
 exact ⟨rfl,HB.out.below⟩
theorem RZero_x (h:Bxs w0 w L r F) (c:Cf) (xs:List Int) (N:Nat) (hF:Within [(c.ta,i64s xs)] F) (hl:xs.length = c.tn) (hc:ze2 c xs) (hN:c.targets = (N:Int)) :
  Calls Tryz.prog 17 #[.agg (cf c).toArray] w fun e w' => ∃ p:Pt,e = .returned (.agg p.cells.toArray) ∧ Bxs w0 w' L r ((p.A,i64s p.x.pen) :: F) ∧ p.x = zp N ∧ p.Fine:=by
 refine (Zero_any c xs N _ w (hF.rd h (List.mem_cons_self ..)) (Nat.le_refl _) hl hc hN).mono ?_
 rintro e w' ⟨A,k,rfl,hb,ho⟩
 have h2:=h.callRow hb ho
 have h3:=(h2.rows _ (List.mem_cons_self ..)).1.le
 exact ⟨⟨zp N,A,N,k,none,0,0⟩,rfl,h2.freeze,rfl,⟨(zi7 (by have:=hc.targets.2; omega) none).ok,List.length_replicate ..,h3.1,h3.2,rfl,Nat.le_refl _,Nat.zero_le _⟩⟩
end
theorem zp5 (b t:Int) (p:Pt):Tryz.prog.built 37 [(0,.int .i64 4),(1,.int .i64 9),(2,.int .i64 1),(3,.int .i64 1),(4,.int .i64 b),(10,.bool true),(11,.agg p.cells.toArray)] = some (mvs (pm 4 9 1 1 b p.x) (loOf p)).toArray:=by kernel_rfl
set_option maxRecDepth 100000 in
set_option maxHeartbeats 2000000 in
theorem head_any (w:World) (ht:Tab w) (hh:HTab w):Calls Tryz.prog 6 #[] w fun e w' => e = .returned (.bool true) ∧ Below w.heap.size w w':=by
 have HB:=Lib.hid (Bxs.start w)
 have HT:=Lib.hid ht
 have HH:=Lib.hid hh
 clear ht hh
 go_enter Tryz.func6,Tryz.ntmps6
 go_wp2_with (go_at_call 16; fail)
 refine (zq7 w).mono ?_
 rintro e w1 ⟨A,rfl,hb,hn⟩
 replace HB:=Lib.hid (HB.out.zg9 hb hn (fun _ q => by cases q))
 clear hb hn
 have HF:Hid (Within [(A,i64s [1,0])] [(A,i64s [1,0])]):=Lib.hid (fun q hq => .inr hq)
 go_wp2_with (first | (go_at_call 7; fail) | (first | ((with_reducible refine zai HB ?_); clear HB; intro w_ HB) | ((with_reducible refine zaf (d:=some 1) ?_); (first | refine boxa HB rfl ?_ | refine boxt HB rfl rfl ?_ | refine box1 HB rfl rfl ?_); clear HB; intro b1 w_ HB; refine Kx.fr ?_) | ((with_reducible refine zaa (d:=some 1) ?_); (first | refine ala HB ?_ | refine al1 HB ?_); clear HB; intro b1 w_ HB; refine Kx.fr ?_) | ((with_reducible refine zaf ?_); (first | refine boxa HB rfl ?_ | refine boxt HB rfl rfl ?_ | refine box1 HB rfl rfl ?_); clear HB; intro b_ w_ HB; refine Kx.fr ?_) | ((with_reducible refine zaa ?_); (first | refine ala HB ?_ | refine al1 HB ?_); clear HB; intro b_ w_ HB; refine Kx.fr ?_) | ((with_reducible refine zab ?_); first | refine Kx.l1 HB rfl rfl ?_ | refine Kx.la HB rfl ?_ | refine Kx.lo HB rfl HC.out ?_) | ((with_reducible refine zac ?_); first | refine l1g HB rfl rfl rfl ?_ | refine Kx.lag HB rfl rfl ?_ | refine Kx.log HB rfl HC.out rfl ?_) | ((with_reducible refine zae ?_); (first | refine stwa HB rfl rfl ?_ | refine sta HB rfl rfl ?_ | refine Kx.stc HB rfl rfl ?_ | refine Kx.stt HB rfl rfl rfl ?_ | refine Kx.st1 HB rfl rfl rfl ?_); clear HB; intro w_ HB)))
 refine (New_x HB.out (zcl A 50 1000 20 40 5) [1,0] 1 2 HF.out rfl ⟨zkg A,by decide,by decide⟩ rfl).mono ?_
 rintro e w2 ⟨⟨ga,g,A2,c2,p⟩,rfl,HJ,hx,hf⟩
 dsimp only at HJ hx hf
 obtain ⟨ok,KA,KC,RA,RC,HB2⟩:=HJ
 clear HB
 have HB:=Lib.hid HB2
 have HP:=Lib.hid (And.intro hx hf)
 have HOk:=Lib.hid ok
 clear HB2 hx hf ok
 have HNo:Hid (∀ {W:World} {L:List (Nat × List Value)} {r':List Rw} {F:Fz},Bxs w W L r' F → Calls Tryz.prog 7 #[.agg (cf zeroC).toArray,.int .i64 1] W fun e w' => e = .returned (.pointer none) ∧ Bxs w w' L r' F):=Lib.hid (fun q => New_no q zeroC [] 1 (fun z hz => .inl (by rw [List.mem_singleton.1 hz]; rfl)) rfl (fun z => zeroP_no z.1))
 go_wp2_with (first | (go_at_call 7; refine (HNo.out HB.out).mono ?_; rintro e w_ ⟨rfl,hb_⟩; replace HB:=Lib.hid hb_; clear hb_) | (go_at_call 9; refine (zh4 (ga:=ga) (g:=g) (a:=newA { zcl A 50 1000 20 40 5 with ta:=A2,tn:=2,tc:=c2 } 1 p) HB.out).mono ?_; rintro e w_ ⟨rfl,hb_⟩; replace HB:=Lib.hid (HB.out.call hb_); clear hb_) | (go_at_call 17; fail) | (first | ((with_reducible refine zai HB ?_); clear HB; intro w_ HB) | ((with_reducible refine zaf ?_); (first | refine boxa HB rfl ?_ | refine boxt HB rfl rfl ?_ | refine box1 HB rfl rfl ?_); clear HB; intro b_ w_ HB; refine Kx.fr ?_) | ((with_reducible refine zaa ?_); (first | refine ala HB ?_ | refine al1 HB ?_); clear HB; intro b_ w_ HB; refine Kx.fr ?_) | ((with_reducible refine zab ?_); first | refine Kx.l1 HB rfl rfl ?_ | refine Kx.la HB rfl ?_ | refine Kx.lo HB rfl HC.out ?_) | ((with_reducible refine zac ?_); first | refine l1g HB rfl rfl rfl ?_ | refine Kx.lag HB rfl rfl ?_ | refine Kx.log HB rfl HC.out rfl ?_) | ((with_reducible refine zae ?_); (first | refine stwa HB rfl rfl ?_ | refine sta HB rfl rfl ?_ | refine Kx.stc HB rfl rfl ?_ | refine Kx.stt HB rfl rfl rfl ?_ | refine Kx.st1 HB rfl rfl rfl ?_); clear HB; intro w_ HB)))
 refine (RZero_x HB.out (zcl A 50 1000 20 40 5) [1,0] 2 (fun z hz => .inr (List.mem_cons_of_mem _ hz)) rfl (zkg A) rfl).mono ?_
 rintro e w3 ⟨z,rfl,hb,hx,hf⟩
 replace HB:=Lib.hid hb
 have HZ:=Lib.hid (And.intro hx hf)
 clear hb hx hf HF
 have HX:=Lib.hid (zp5 16 0 z)
 have hzr:z.x.right = true:=by rw [HZ.out.1]; exact zi6 (N:=2) (by decide) ⟨by decide,by decide⟩ ⟨by decide,by decide⟩
 obtain ⟨s1,hh1,hl1⟩:=zk0 (c:={ zcl A 50 1000 20 40 5 with ta:=A2,tn:=2,tc:=c2 }) (node:=1) (p:=p) (f:=9) (t:=1) (b:=16) (q:=z.x) (lo:=loOf z) (now:=5) live_new hzr (by rw [HZ.out.1]; rfl) ⟨by decide,by decide⟩ ⟨by decide,by decide⟩ (by decide) ⟨by decide,by decide⟩
 have hh2:=zld (c:={ zcl A 50 1000 20 40 5 with ta:=A2,tn:=2,tc:=c2 }) (node:=1) (p:=mpt (pm 4 9 1 1 16 z.x) (loOf z)) (f:=9) (t:=1) (b:=16) (q:=z.x) (lo:=loOf z) (now:=5) hl1 hzr (by rw [HZ.out.1]; rfl) ⟨by decide,by decide⟩ ⟨by decide,by decide⟩ (by decide) ⟨by decide,by decide⟩
 have hmo:MsOk (pm 4 9 1 1 16 z.x) (loOf z):=pm_ok HZ.out.2 ⟨by decide,by decide⟩ ⟨by decide,by decide⟩ ⟨by decide,by decide⟩ ⟨by decide,by decide⟩ ⟨by decide,by decide⟩
 have hzi:Within z.fz ((z.A,i64s z.x.pen) :: (p.A,i64s p.x.pen) :: [(A,i64s [1,0])]):=zmu HZ.out.1 (List.mem_cons_self ..)
 have hpi:Within p.fz ((z.A,i64s z.x.pen) :: (p.A,i64s p.x.pen) :: [(A,i64s [1,0])]):=zmu HP.out.1 (List.mem_cons_of_mem _ (List.mem_cons_self ..))
 have H1:Hid (∀ {W:World} {l':List (Nat × List Value)} {r':List Rw},Jbx w W g Jm.new ((ga,(newA { zcl A 50 1000 20 40 5 with ta:=A2,tn:=2,tc:=c2 } 1 p).cells g) :: l') r' ((z.A,i64s z.x.pen) :: (p.A,i64s p.x.pen) :: [(A,i64s [1,0])]) → Calls Tryz.prog 14 #[.pointer (some ⟨ga,0,none⟩),.agg (mvs (pm 4 9 1 1 16 z.x) (loOf z)).toArray,.int .i64 5] W fun e w' => ∃ b,e = .returned (.slice (some ⟨b,0,none⟩) 1 1) ∧ Jbx w w' g s1 ((b,mvs (promised (mid { zcl A 50 1000 20 40 5 with ta:=A2,tn:=2,tc:=c2 } 1 16 (mpt (pm 4 9 1 1 16 z.x) (loOf z))) (pm 4 9 1 1 16 z.x)) (loOf noPt)) :: (ga,(mid { zcl A 50 1000 20 40 5 with ta:=A2,tn:=2,tc:=c2 } 1 16 (mpt (pm 4 9 1 1 16 z.x) (loOf z))).cells g) :: l') r' ((z.A,i64s z.x.pen) :: (p.A,i64s p.x.pen) :: [(A,i64s [1,0])])):=Lib.hid (fun q => by
  have:=zge q ⟨HP.out.2,hpi,(show (0:Int) ≤ 20 ∧ (20:Int) ≤ 1048576 from ⟨by decide,by decide⟩),(show (0:Int) ≤ 5 ∧ (5:Int) ≤ 1048576 from ⟨by decide,by decide⟩)⟩ (pm 4 9 1 1 16 z.x) (loOf z) 5 hmo (pm_in hzi) HT.out HH.out (by decide)
  rw [hh1] at this
  exact this)
 have H2:Hid (∀ {W:World} {l':List (Nat × List Value)} {r':List Rw},Jbx w W g s1 ((ga,(mid { zcl A 50 1000 20 40 5 with ta:=A2,tn:=2,tc:=c2 } 1 16 (mpt (pm 4 9 1 1 16 z.x) (loOf z))).cells g) :: l') r' ((z.A,i64s z.x.pen) :: (p.A,i64s p.x.pen) :: [(A,i64s [1,0])]) → Calls Tryz.prog 14 #[.pointer (some ⟨ga,0,none⟩),.agg (mvs (pm 4 9 1 1 16 z.x) (loOf z)).toArray,.int .i64 5] W fun e w' => ∃ b,e = .returned (.slice (some ⟨b,0,none⟩) 1 1) ∧ Jbx w w' g s1 ((b,mvs (zfe (mid { zcl A 50 1000 20 40 5 with ta:=A2,tn:=2,tc:=c2 } 1 16 (mpt (pm 4 9 1 1 16 z.x) (loOf z))) (pm 4 9 1 1 16 z.x)) Lo.zero) :: (ga,(mid { zcl A 50 1000 20 40 5 with ta:=A2,tn:=2,tc:=c2 } 1 16 (mpt (pm 4 9 1 1 16 z.x) (loOf z))).cells g) :: l') r' ((z.A,i64s z.x.pen) :: (p.A,i64s p.x.pen) :: [(A,i64s [1,0])])):=Lib.hid (fun q => by
  have:=zge q ⟨hmo.pt,hzi,(show (0:Int) ≤ 20 ∧ (20:Int) ≤ 1048576 from ⟨by decide,by decide⟩),(show (0:Int) ≤ 5 ∧ (5:Int) ≤ 1048576 from ⟨by decide,by decide⟩)⟩ (pm 4 9 1 1 16 z.x) (loOf z) 5 hmo (pm_in hzi) HT.out HH.out (by have:=hl1.len; omega)
  rw [hh2] at this
  exact this)
 obtain ⟨y1,hy1⟩ : ∃ y,y = promised (mid { zcl A 50 1000 20 40 5 with ta:=A2,tn:=2,tc:=c2 } 1 16 (mpt (pm 4 9 1 1 16 z.x) (loOf z))) (pm 4 9 1 1 16 z.x):=⟨_,rfl⟩
 obtain ⟨y2,hy2⟩ : ∃ y,y = zfe (mid { zcl A 50 1000 20 40 5 with ta:=A2,tn:=2,tc:=c2 } 1 16 (mpt (pm 4 9 1 1 16 z.x) (loOf z))) (pm 4 9 1 1 16 z.x):=⟨_,rfl⟩
 have k1:(y1.k == 5) = true:=by rw [hy1]; rfl
 have k2:(y1.t == 9) = true:=by rw [hy1]; rfl
 have k3:(y2.k == 6) = true:=by rw [hy2]; rfl
 rw [←hy1] at H1
 rw [←hy2] at H2
 clear hy1 hy2 hh1 hh2 hl1 hmo hzi hpi hzr HZ HP HNo HT HH
 generalize mid { zcl A 50 1000 20 40 5 with ta:=A2,tn:=2,tc:=c2 } 1 16 (mpt (pm 4 9 1 1 16 z.x) (loOf z)) = a2 at *
 go_wp2_with (first | (go_at_call 14; fail) | ((with_reducible refine Kx.zba ?_); refine Km.wpList_build rfl 37 _ rfl #[(0,.int .i64 4),(1,.int .i64 9),(2,.int .i64 1),(3,.int .i64 1),(4,.int .i64 16),(10,.bool true),(11,.agg z.cells.toArray)] (by first | rfl | (go_simp; try rfl)) (mvs (pm 4 9 1 1 16 z.x) (loOf z)).toArray (HX.out) ?_; refine Kx.framed ?_ (by simp only [Act.put,List.setIfInBounds_toArray,List.set_cons_succ,List.set_cons_zero] <;> rfl)) | (first | ((with_reducible refine zai HB ?_); clear HB; intro w_ HB) | ((with_reducible refine zaf (d:=some 3) ?_); (first | refine boxa HB rfl ?_ | refine boxt HB rfl rfl ?_ | refine box1 HB rfl rfl ?_); clear HB; intro b3 w_ HB; refine Kx.fr ?_) | ((with_reducible refine zaa (d:=some 3) ?_); (first | refine ala HB ?_ | refine al1 HB ?_); clear HB; intro b3 w_ HB; refine Kx.fr ?_) | ((with_reducible refine zaf ?_); (first | refine boxa HB rfl ?_ | refine boxt HB rfl rfl ?_ | refine box1 HB rfl rfl ?_); clear HB; intro b_ w_ HB; refine Kx.fr ?_) | ((with_reducible refine zaa ?_); (first | refine ala HB ?_ | refine al1 HB ?_); clear HB; intro b_ w_ HB; refine Kx.fr ?_) | ((with_reducible refine zab ?_); first | refine Kx.l1 HB rfl rfl ?_ | refine Kx.la HB rfl ?_ | refine Kx.lo HB rfl HC.out ?_) | ((with_reducible refine zac ?_); first | refine l1g HB rfl rfl rfl ?_ | refine Kx.lag HB rfl rfl ?_ | refine Kx.log HB rfl HC.out rfl ?_) | ((with_reducible refine zae ?_); (first | refine stwa HB rfl rfl ?_ | refine sta HB rfl rfl ?_ | refine Kx.stc HB rfl rfl ?_ | refine Kx.stt HB rfl rfl rfl ?_ | refine Kx.st1 HB rfl rfl rfl ?_); clear HB; intro w_ HB)))
 refine (H1.out (Jbx.front HB.out HOk.out).swap).mono ?_
 rintro e w4 ⟨bx,rfl,HJ⟩
 clear HB HOk H1
 obtain ⟨ok,KA,KC,RA,RC,HB2⟩:=HJ
 have HB:=Lib.hid HB2
 have HOk:=Lib.hid ok
 clear HB2 ok
 go_wp2_with (first | (go_at_call 14; fail) | (first | ((with_reducible refine zai HB ?_); clear HB; intro w_ HB) | ((with_reducible refine zaf ?_); (first | refine boxa HB rfl ?_ | refine boxt HB rfl rfl ?_ | refine box1 HB rfl rfl ?_); clear HB; intro b_ w_ HB; refine Kx.fr ?_) | ((with_reducible refine zaa ?_); (first | refine ala HB ?_ | refine al1 HB ?_); clear HB; intro b_ w_ HB; refine Kx.fr ?_) | ((with_reducible refine zab ?_); first | refine Kx.l1 HB rfl rfl ?_ | refine Kx.la HB rfl ?_ | refine Kx.lo HB rfl HC.out ?_) | ((with_reducible refine zac ?_); first | refine l1g HB rfl rfl rfl ?_ | refine Kx.lag HB rfl rfl ?_ | refine Kx.log HB rfl HC.out rfl ?_) | ((with_reducible refine zae ?_); (first | refine stwa HB rfl rfl ?_ | refine sta HB rfl rfl ?_ | refine Kx.stc HB rfl rfl ?_ | refine Kx.stt HB rfl rfl rfl ?_ | refine Kx.st1 HB rfl rfl rfl ?_); clear HB; intro w_ HB)))
 refine (H2.out (Jbx.swap ⟨HOk.out,_,_,_,_,HB.out⟩)).mono ?_
 rintro e w5 ⟨by_,rfl,HJ⟩
 clear HB HOk H2
 obtain ⟨ok,KA,KC,RA,RC,HB2⟩:=HJ
 have HB:=Lib.hid HB2
 clear HB2 ok
 go_wp2_with (first | ((with_reducible refine zai HB ?_); clear HB; intro w_ HB) | ((with_reducible refine zaf ?_); (first | refine boxa HB rfl ?_ | refine boxt HB rfl rfl ?_ | refine box1 HB rfl rfl ?_); clear HB; intro b_ w_ HB; refine Kx.fr ?_) | ((with_reducible refine zaa ?_); (first | refine ala HB ?_ | refine al1 HB ?_); clear HB; intro b_ w_ HB; refine Kx.fr ?_) | ((with_reducible refine zab ?_); first | refine Kx.l1 HB rfl rfl ?_ | refine Kx.la HB rfl ?_ | refine Kx.lo HB rfl HC.out ?_) | ((with_reducible refine zac ?_); first | refine l1g HB rfl rfl rfl ?_ | refine Kx.lag HB rfl rfl ?_ | refine Kx.log HB rfl HC.out rfl ?_) | ((with_reducible refine zae ?_); (first | refine stwa HB rfl rfl ?_ | refine sta HB rfl rfl ?_ | refine Kx.stc HB rfl rfl ?_ | refine Kx.stt HB rfl rfl rfl ?_ | refine Kx.st1 HB rfl rfl rfl ?_); clear HB; intro w_ HB))
 go_ret
 exact ⟨rfl,HB.out.below⟩
end Go.Proofs.YtponpgcpmlcdpaaGreatDoor
