import Derived.Test.YtponpgcpmlcdpaaGreatDoorOxx
import Derived.Test.YtponpgcpmlcdpaaGreatDoorKpm
import Derived.Test.YtponpgcpmlcdpaaGreatDoorAo
namespace Go.Proofs.YtponpgcpmlcdpaaGreatDoor
open Go.RowKit Go.Shelf Km Kx Kc Kt
set_option linter.unusedVariables false
set_option linter.unusedSimpArgs false
instance:Kx.OneC Tryz.prog 5:=⟨Tryz.isAgg5⟩
instance:Kx.OneC Tryz.prog 27:=⟨Tryz.isAgg27⟩
instance:Kx.AggC Tryz.prog 67 8:=⟨Tryz.isAgg67,Tryz.sizeOf67⟩
instance:Kx.ZAgg Tryz.prog 67 [.int .i64 0,.int .i64 0,.int .u64 0,.int .i64 0,.int .i64 0,.int .i64 0,.int .u64 0,.int .i64 0]:=⟨Tryz.zeroValue67⟩
instance:Kx.AggC Tryz.prog 69 4:=⟨Tryz.isAgg69,Tryz.sizeOf69⟩
instance:Kx.ZAgg Tryz.prog 69 Tu.zero.cells:=⟨Tryz.zeroValue69⟩
@[simp] theorem Tu.len' (o:Tu):o.cells.length = 4:=rfl
set_option maxRecDepth 100000 in
set_option maxHeartbeats 8000000 in
theorem zqw (A:Option Addr) (len cap:Nat) (os:List Tu) (w:World) (w1:os.length = len ∧ len ≤ cap ∧ cap ≤ maxLen ∧ (∀ p ∈ os,p.At w w.heap.size) ∧ Rd w w.heap.size A (cat Tu.cells os)) (ht:Tbs w) :
  Calls Tryz.prog 5 #[.slice A len cap] w fun e w' => e = .returned (.bool true) ∧ Below w.heap.size w w':=by
 obtain ⟨hlen,-,-,hat,hrd⟩:=w1
 have HB:=Lib.hid (Bxs.start w)
 have HAt:=Lib.hid hat
 have HRd:=Lib.hid hrd
 have HLen:=Lib.hid hlen
 have HT:=Lib.hid ht
 have hio:(Tryz.prog.info? 69).map (·.size) = some 4:=by kernel_rfl
 clear hat hrd hlen ht
 by_cases hgr:300 < (len:Int)
 ·have d0:decide (300 < (len:Int)) = true:=decide_eq_true hgr
  clear hgr HAt HRd HLen HT
  go_enter Tryz.func5,Tryz.ntmps5
  go_wp2_with (first | (go_at_call 22; refine Calls.mono (zk8 _) ?_; rintro e w_ ⟨rfl,hb_⟩; replace HB:=Lib.hid (HB.out.call hb_); clear hb_) | (go_at_call 16; fail))
  refine (zic _).mono ?_
  rintro e w1 ⟨Ap,rfl,hb_,-⟩
  replace HB:=Lib.hid (HB.out.call hb_)
  clear hb_
  go_wp2_with (first | ((with_reducible refine zah HB ?_); clear HB; intro w_ HB) | ((with_reducible refine zad (d:=some 4) ?_); (first | refine boxa HB rfl ?_ | refine boxt HB rfl rfl ?_ | refine box1 HB rfl rfl ?_); clear HB; intro b4 w_ HB; refine Kx.fr ?_) | ((with_reducible refine zaa (d:=some 4) ?_); (first | refine ala HB ?_ | refine al1 HB ?_); clear HB; intro b4 w_ HB; refine Kx.fr ?_) | ((with_reducible refine zad ?_); (first | refine boxa HB rfl ?_ | refine boxt HB rfl rfl ?_ | refine box1 HB rfl rfl ?_); clear HB; intro b_ w_ HB; refine Kx.fr ?_) | ((with_reducible refine zaa ?_); (first | refine ala HB ?_ | refine al1 HB ?_); clear HB; intro b_ w_ HB; refine Kx.fr ?_) | ((with_reducible refine zab ?_); first | refine Kx.l1 HB rfl rfl ?_ | refine Kx.la HB rfl ?_ | refine Kx.lo HB rfl HC.out ?_) | ((with_reducible refine zac ?_); first | refine l1g HB rfl rfl rfl ?_ | refine Kx.lag HB rfl rfl ?_ | refine Kx.log HB rfl HC.out rfl ?_) | ((with_reducible refine zae ?_); (first | refine stwa HB rfl rfl ?_ | refine sta HB rfl rfl ?_ | refine Kx.stc HB rfl rfl ?_ | refine Kx.stt HB rfl rfl rfl ?_ | refine Kx.st1 HB rfl rfl rfl ?_); clear HB; intro w_ HB))
  go_ret
  exact ⟨rfl,HB.out.below⟩
 have hle:len ≤ 300:=by omega
 have d0:decide (300 < (len:Int)) = false:=decide_eq_false hgr
 clear hgr
 go_enter Tryz.func5,Tryz.ntmps5
 go_wp2_with (first | (go_at_call 22; refine Calls.mono (zk8 _) ?_; rintro e w_ ⟨rfl,hb_⟩; replace HB:=Lib.hid (HB.out.call hb_); clear hb_) | (go_at_call 16; fail))
 refine (zic _).mono ?_
 rintro e w1 ⟨Ap,rfl,hb_,hn_⟩
 replace HB:=Lib.hid (HB.out.zhf hb_ hn_ (fun _ q => by cases q))
 clear hb_ hn_
 obtain ⟨c,hcE⟩ : ∃ c,c = zew Ap 50 1000 20 40 5:=⟨_,rfl⟩
 have HC:Hid (zgr c [1,0] ∧ c.targets = ((2:Nat):Int) ∧ c.ta = Ap ∧ c.tn = 2 ∧ c.l = 20 ∧ c.m = 5 ∧ Fc c = 1 ∧ Lc c = 20):=Lib.hid (by rw [hcE]; exact ⟨zp4 Ap,rfl,rfl,rfl,rfl,rfl,rfl,rfl⟩)
 have hcf1:c.f = 1:=by rw [hcE]; rfl
 rw [←hcE]
 have HNw:Hid (∀ (k:Nat) (W:World) (L:List (Nat × List Value)) (r':List Rw) (F:Fz),k ≤ 255 → Within [(Ap,i64s [1,0])] F → Bxs w W L r' F → Calls Tryz.prog 7 #[.agg (cf c).toArray,.int .i64 (k:Int)] W fun e w' => ∃ (y:Nat × Nat × Option Addr × Nat × Pt),e = .returned (.pointer (some ⟨y.1,0,none⟩)) ∧
   Jbx w w' y.2.1 Jm.new ((y.1,(newA { c with ta:=y.2.2.1,tn:=c.tn,tc:=y.2.2.2.1 } (k:Int) y.2.2.2.2).cells y.2.1) :: L) r' ((y.2.2.2.2.A,i64s y.2.2.2.2.x.pen) :: (y.2.2.1,i64s [1,0]) :: F) ∧ y.2.2.2.2.x = zp 2 ∧ y.2.2.2.2.Fine):=Lib.hid (fun k W L r' F hk hF q => New_y q c [1,0] (k:Int) 2 (by rw [HC.out.2.2.1]; exact hF) (by rw [HC.out.2.2.2.1]; rfl) ⟨HC.out.1,Int.natCast_nonneg _,by omega⟩ HC.out.2.1)
 clear hcE
 go_wp2_with (first | (go_at_call 7; fail) | (first | ((with_reducible refine zah HB ?_); clear HB; intro w_ HB) | ((with_reducible refine zad (d:=some 4) ?_); (first | refine boxa HB rfl ?_ | refine boxt HB rfl rfl ?_ | refine box1 HB rfl rfl ?_); clear HB; intro b4 w_ HB; refine Kx.fr ?_) | ((with_reducible refine zaa (d:=some 4) ?_); (first | refine ala HB ?_ | refine al1 HB ?_); clear HB; intro b4 w_ HB; refine Kx.fr ?_) | ((with_reducible refine zad ?_); (first | refine boxa HB rfl ?_ | refine boxt HB rfl rfl ?_ | refine box1 HB rfl rfl ?_); clear HB; intro b_ w_ HB; refine Kx.fr ?_) | ((with_reducible refine zaa ?_); (first | refine ala HB ?_ | refine al1 HB ?_); clear HB; intro b_ w_ HB; refine Kx.fr ?_) | ((with_reducible refine zab ?_); first | refine Kx.l1 HB rfl rfl ?_ | refine Kx.la HB rfl ?_ | refine Kx.lo HB rfl HC.out ?_) | ((with_reducible refine zac ?_); first | refine l1g HB rfl rfl rfl ?_ | refine Kx.lag HB rfl rfl ?_ | refine Kx.log HB rfl HC.out rfl ?_) | ((with_reducible refine zae ?_); (first | refine stwa HB rfl rfl ?_ | refine sta HB rfl rfl ?_ | refine Kx.stc HB rfl rfl ?_ | refine Kx.stt HB rfl rfl rfl ?_ | refine Kx.st1 HB rfl rfl rfl ?_); clear HB; intro w_ HB)))
 refine (HNw.out 0 _ _ _ _ (by decide) (fun q hq => .inr hq) HB.out).mono ?_
 rintro e w2 ⟨⟨ga,g,A2,c2,p⟩,rfl,HJ,hx,hf⟩
 dsimp only at HJ hx hf
 obtain ⟨ok,KA,KC,RA,RC,HB2⟩:=HJ
 clear HB
 have HB:=Lib.hid HB2.tail.tail.zem.zem
 clear HB2 hx hf ok
 go_wp2_with (first | ((with_reducible refine zah HB ?_); clear HB; intro w_ HB) | ((with_reducible refine zad ?_); (first | refine boxa HB rfl ?_ | refine boxt HB rfl rfl ?_ | refine box1 HB rfl rfl ?_); clear HB; intro b_ w_ HB; refine Kx.fr ?_) | ((with_reducible refine zaa ?_); (first | refine ala HB ?_ | refine al1 HB ?_); clear HB; intro b_ w_ HB; refine Kx.fr ?_) | ((with_reducible refine zab ?_); first | refine Kx.l1 HB rfl rfl ?_ | refine Kx.la HB rfl ?_ | refine Kx.lo HB rfl HC.out ?_) | ((with_reducible refine zac ?_); first | refine l1g HB rfl rfl rfl ?_ | refine Kx.lag HB rfl rfl ?_ | refine Kx.log HB rfl HC.out rfl ?_) | ((with_reducible refine zae ?_); (first | refine stwa HB rfl rfl ?_ | refine sta HB rfl rfl ?_ | refine Kx.stc HB rfl rfl ?_ | refine Kx.stt HB rfl rfl rfl ?_ | refine Kx.st1 HB rfl rfl rfl ?_); clear HB; intro w_ HB))
 replace HB:=Lib.hid (HB.out.zqe 27 1)
 go_loopg [5,6] 3 (fun gh ax ix wr => ∃ (k:Nat) (A5:Option Addr) (c5:Nat) (T:List A1) (F:Fz),gh + k = 3 ∧ ax = .slice A5 k c5 ∧ ix = .int .i64 (k:Int) ∧ Hid (T.length = k) ∧ Hid (∀ t ∈ T,Jm.Ok t.s) ∧ Hid (Al F 0 0 (fun _ => -1) (fun _ => -1) T) ∧ Hid (Within [(Ap,i64s [1,0])] F) ∧ Hid (Bxs w wr ((b4,cf c) :: abx T) (⟨A5,c5,27,1,k,ptrs T⟩ :: arw T) F))
 case atStart => exact ⟨0,none,0,[],_,by omega,rfl,rfl,Lib.hid rfl,Lib.hid (fun t ht => by cases ht),Lib.hid (fun i t hi => by cases hi),Lib.hid (fun q hq => .inr (List.mem_cons_of_mem _ (List.mem_cons_of_mem _ hq))),HB⟩
 case round =>
  clear HB
  obtain ⟨k,A5,c5,T,F,hk,rfl,rfl,HTl,HOk,HAl,HWi,HB⟩:=hrel
  by_cases hlt:k < 3
  case pos =>
   have d1:decide ((k:Int) ≤ 2) = true:=decide_eq_true (by omega)
   go_wp2_with (first | (go_at_call 7; fail) | (first | ((with_reducible refine zah HB ?_); clear HB; intro w_ HB) | ((with_reducible refine zab ?_); first | refine Kx.l1 HB rfl rfl ?_ | refine Kx.la HB rfl ?_) | ((with_reducible refine zac ?_); first | refine l1g HB rfl rfl rfl ?_ | refine Kx.lag HB rfl rfl ?_)))
   refine (HNw.out k _ _ _ _ (by omega) HWi.out HB.out).mono ?_
   rintro e w2 ⟨⟨ga,g,A2,c2,p⟩,rfl,HJ,hx,hf⟩
   dsimp only at HJ hx hf
   obtain ⟨t',e1,e2,e3,hok,HB2⟩:=acs_more (l:=[(b4,cf c)]) (r:=[⟨A5,c5,27,1,k,ptrs T⟩]) HJ HOk.out
   rw [←e1]
   clear HB HJ
   have HB:Hid (Bxs w w2 ((b4,cf c) :: abx (T ++ [t'])) (⟨A5,c5,27,1,k,ptrs T⟩ :: arw (T ++ [t'])) ((p.A,i64s p.x.pen) :: (A2,i64s [1,0]) :: F)):=Lib.hid HB2
   have HOk2:=Lib.hid hok
   have HTl2:Hid ((T ++ [t']).length = k + 1):=Lib.hid (by rw [List.length_append,HTl.out]; rfl)
   have HPt:Hid (ptrs (T ++ [t']) = ptrs T ++ [.pointer (some ⟨t'.ga,0,none⟩)]):=Lib.hid (by unfold ptrs; rw [List.map_append]; rfl)
   have HAl2:Hid (Al ((p.A,i64s p.x.pen) :: (A2,i64s [1,0]) :: F) 0 0 (fun _ => -1) (fun _ => -1) (T ++ [t'])):=Lib.hid (fun i t hi => by
    by_cases hik:i < k
    ·rw [List.getElem?_append_left (by rw [HTl.out]; exact hik)] at hi
     obtain ⟨rs,k1,k2⟩:=HAl.out i t hi
     exact ⟨rs,k1.wide (fun q hq => List.mem_cons_of_mem _ (List.mem_cons_of_mem _ hq)) (Nat.le_refl _),k2⟩
    ·rw [List.getElem?_append_right (by rw [HTl.out]; omega),HTl.out] at hi
     have hi0:i - k = 0:=by
      rcases Nat.eq_zero_or_pos (i - k) with q | q
      ·exact q
      ·rw [List.getElem?_eq_none (by show 1 ≤ i - k; exact q)] at hi; cases hi
     rw [hi0] at hi
     cases hi
     have hik2:i = k:=by omega
     subst hik2
     refine ⟨[],⟨?_,?_,?_,?_,?_,?_,?_,?_,?_⟩,?_⟩
     ·rw [e2]; exact ⟨⟨hf,zfz_in hx (List.mem_cons_self ..),by show p.x.right = true; rw [hx]; exact zm2 (N:=2) (by decide) ⟨by decide,by decide⟩ ⟨by decide,by decide⟩⟩,.inl rfl,I0,I0,rfl,by show 0 ≤ c.l ∧ c.l ≤ 1048576; rw [HC.out.2.2.2.2.1]; exact ⟨by decide,by decide⟩,by show 0 ≤ c.m ∧ c.m ≤ 1048576; rw [HC.out.2.2.2.2.2.1]; exact ⟨by decide,by decide⟩⟩
     ·rw [e2,e3]; exact .inl (JUp.new (by rw [zqf,hx]))
     ·rw [e3]; exact Nat.le_refl _
     ·rw [e2]; exact HC.out.2.2.2.2.1
     ·rw [e2]; exact HC.out.2.2.2.2.2.1
     ·rw [e2]; exact HC.out.2.1
     ·rw [e2]; exact HC.out.1.re
     ·rw [e2]; exact HC.out.2.2.2.1.symm
     ·rw [e2]; exact List.mem_cons_of_mem _ (List.mem_cons_self ..)
     ·rw [e2,e3]; exact Nl.new _)
   have HWi2:Hid (Within [(Ap,i64s [1,0])] ((p.A,i64s p.x.pen) :: (A2,i64s [1,0]) :: F)):=Lib.hid (fun q hq => (HWi.out q hq).imp id (fun h => List.mem_cons_of_mem _ (List.mem_cons_of_mem _ h)))
   clear HB2 hx hf e1 e2 e3 hok HAl HWi HOk HTl
   go_wp2_with (first | (at_builtin; first | (refine Kx.zgt HB rfl _ _ 52 rfl _ _ _ rfl 8 27 1 _ rfl Tryz.underlying52 (by kernel_rfl) (by decide) _ _ _ rfl _ ([Value.pointer (some ⟨t'.ga,0,none⟩)]) (HB.out.rd) (by (first | rfl | (intro u hu; rw [List.mem_singleton] at hu; subst hu; rfl) | (unfold maxLen; omega) | omega)) (by (first | rfl | (intro u hu; rw [List.mem_singleton] at hu; subst hu; rfl) | (unfold maxLen; omega) | omega)) (by (first | rfl | (intro u hu; rw [List.mem_singleton] at hu; subst hu; rfl) | (unfold maxLen; omega) | omega)) (by (first | rfl | (intro u hu; rw [List.mem_singleton] at hu; subst hu; rfl) | (unfold maxLen; omega) | omega)) ?_; clear HB; intro A_ c_ w_ hl_ hm_ HB; refine Kx.framed ?_ (by simp only [Act.put,List.setIfInBounds_toArray,List.set_cons_succ,List.set_cons_zero] <;> rfl)) | (refine Kx.zfu HB rfl _ _ 52 rfl rfl 8 27 1 Tryz.underlying52 (by kernel_rfl) (by decide) _ _ _ rfl _ ([Value.pointer (some ⟨t'.ga,0,none⟩)]) (HB.out.rd) (by (first | rfl | (intro u hu; rw [List.mem_singleton] at hu; subst hu; rfl) | (unfold maxLen; omega) | omega)) (by (first | rfl | (intro u hu; rw [List.mem_singleton] at hu; subst hu; rfl) | (unfold maxLen; omega) | omega)) (by (first | rfl | (intro u hu; rw [List.mem_singleton] at hu; subst hu; rfl) | (unfold maxLen; omega) | omega)) (by (first | rfl | (intro u hu; rw [List.mem_singleton] at hu; subst hu; rfl) | (unfold maxLen; omega) | omega)) ?_; clear HB; intro A_ c_ w_ hl_ hm_ HB; refine Kx.framed ?_ (by simp only [Act.put,List.setIfInBounds_toArray,List.set_cons_succ,List.set_cons_zero] <;> rfl))) | (first | ((with_reducible refine zah HB ?_); clear HB; intro w_ HB) | ((with_reducible refine zab ?_); first | refine Kx.l1 HB rfl rfl ?_ | refine Kx.la HB rfl ?_) | ((with_reducible refine zac ?_); first | refine l1g HB rfl rfl rfl ?_ | refine Kx.lag HB rfl rfl ?_)))
   go_roundg (gk - 1)
   case measure => omega
   case rel => exact ⟨k + 1,_,_,T ++ [t'],_,by omega,rfl,by go_num,HTl2,HOk2,HAl2,HWi2,by rw [HPt.out]; exact Lib.hid HB.out.tail⟩
  obtain rfl:k = 3:=by omega
  have d1:decide (((3:Nat):Int) ≤ 2) = false:=by decide
  obtain ⟨P3,hP3⟩ : ∃ P3,P3 = ptrs T:=⟨_,rfl⟩
  have hrow:=HB.out.rowRd (A:=A5)
  obtain ⟨ad5,hA5⟩ : ∃ ad5,A5 = some ad5:=by
   obtain ⟨t0,ht0⟩ : ∃ t0,T[0]? = some t0:=⟨T[0]'(by rw [HTl.out]; decide),List.getElem?_eq_getElem _⟩
   obtain ⟨ad,e,-⟩:=hrow 0 (A1.ptr t0) (by show (ptrs T)[0]? = _; unfold ptrs; rw [List.getElem?_map,ht0]; rfl)
   exact ⟨ad,e⟩
  subst hA5
  clear hrow
  rw [←hP3] at HB
  have HB2:Hid (Bxs w wr ((b4,cf c) :: abx T) (arw T) ((some ad5,P3) :: F)):=Lib.hid HB.out.freeze
  obtain ⟨F1,hF1⟩ : ∃ F1,F1 = (some ad5,P3) :: F:=⟨_,rfl⟩
  rw [←hF1] at HB2
  have HT0:Hid (T.length = 3 ∧ ptrs T = P3 ∧ (∀ t ∈ T,Jm.Ok t.s) ∧ (some ad5,P3) ∈ F1):=Lib.hid ⟨HTl.out,hP3.symm,HOk.out,by rw [hF1]; exact List.mem_cons_self ..⟩
  have HAl0:Hid (Al F1 (0 * 8200) 0 (fun _ => -1) (fun _ => -1) T):=Lib.hid (fun i t hi => by
   obtain ⟨rs,k1,k2⟩:=HAl.out i t hi
   exact ⟨rs,k1.wide (fun q hq => by rw [hF1]; exact List.mem_cons_of_mem _ hq) (Nat.zero_le _),k2⟩)
  have HH0:Hid (HI (fun _ => -1) 0 0 0 0):=Lib.hid ⟨⟨Int.le_refl _,Int.le_refl _⟩,⟨by decide,fun i _ hb => by rw [Nat.zero_testBit] at hb; cases hb⟩,.inl rfl⟩
  clear HB HTl HOk HAl HWi hP3 hF1 HNw
  have HB:=HB2
  clear HB2
  have HPc:Hid (∀ (i:Nat) (t:A1) (T':List A1) (F':Fz) W L r',(ptrs T' = P3 ∧ (some ad5,P3) ∈ F') → T'[i]? = some t → Bxs w W L r' F' → W.cell? (ad5.add i) = some (.pointer (some ⟨t.ga,0,none⟩))):=Lib.hid (fun i t T' F' W L r' hp hi hB => by
   obtain ⟨ad,e,-,hcell⟩:=hB.zez hp.2 i (A1.ptr t) (by rw [←hp.1]; show (ptrs T')[i]? = _; unfold ptrs; rw [List.getElem?_map,hi]; rfl)
   cases e
   exact hcell)
  go_wp2_with (first | ((with_reducible refine zah HB ?_); clear HB; intro w_ HB) | ((with_reducible refine zad (d:=some 7) ?_); (first | refine boxa HB rfl ?_ | refine boxt HB rfl rfl ?_ | refine box1 HB rfl rfl ?_); clear HB; intro b7 w_ HB; refine Kx.fr ?_) | ((with_reducible refine zaa (d:=some 7) ?_); (first | refine ala HB ?_ | refine al1 HB ?_); clear HB; intro b7 w_ HB; refine Kx.fr ?_) | ((with_reducible refine zad ?_); (first | refine boxa HB rfl ?_ | refine boxt HB rfl rfl ?_ | refine box1 HB rfl rfl ?_); clear HB; intro b_ w_ HB; refine Kx.fr ?_) | ((with_reducible refine zaa ?_); (first | refine ala HB ?_ | refine al1 HB ?_); clear HB; intro b_ w_ HB; refine Kx.fr ?_) | ((with_reducible refine zab ?_); first | refine Kx.l1 HB rfl rfl ?_ | refine Kx.la HB rfl ?_ | refine Kx.lo HB rfl HC.out ?_) | ((with_reducible refine zac ?_); first | refine l1g HB rfl rfl rfl ?_ | refine Kx.lag HB rfl rfl ?_ | refine Kx.log HB rfl HC.out rfl ?_) | ((with_reducible refine zae ?_); (first | refine stwa HB rfl rfl ?_ | refine sta HB rfl rfl ?_ | refine Kx.stc HB rfl rfl ?_ | refine Kx.stt HB rfl rfl rfl ?_ | refine Kx.st1 HB rfl rfl rfl ?_); clear HB; intro w_ HB))
  go_loopg [8,9] len (fun gh nx ix wr => ∃ (k:Nat) (T:List A1) (F:Fz) (nw n0 u0 n1 u1:Int) (G0 G1:Nat) (L0 L1:Nat → Int),gh + k = len ∧ nx = .int .i64 nw ∧ ix = .int .i64 (k:Int) ∧ 0 ≤ nw ∧ nw ≤ 255 * (k:Int) ∧ Hid (T.length = 3 ∧ ptrs T = P3 ∧ (∀ t ∈ T,Jm.Ok t.s) ∧ (some ad5,P3) ∈ F) ∧ Hid (Al F (k * 8200) nw L0 L1 T) ∧ Hid (HI L0 nw n0 G0 u0) ∧ Hid (HI L1 nw n1 G1 u1) ∧ Hid (Bxs w wr ((b7,[.int .i64 0,.int .i64 n0,.int .u64 (G0:Int),.int .i64 u0,.int .i64 0,.int .i64 n1,.int .u64 (G1:Int),.int .i64 u1]) :: (b4,cf c) :: abx T) (arw T) F))
  case atStart => exact ⟨0,T,F1,0,0,0,0,0,0,0,(fun _ => -1),(fun _ => -1),by omega,rfl,rfl,Int.le_refl _,Int.le_refl _,HT0,HAl0,HH0,HH0,HB⟩
  case round =>
   clear HB HT0 HAl0 HH0
   obtain ⟨k,T,F,nw,n0,u0,n1,u1,G0,G1,L0,L1,hk,rfl,rfl,hnw0,hnw1,HT3,HAl,HH0,HH1,HB⟩:=hrel
   by_cases hlt:k < len
   case neg =>
    obtain rfl:k = len:=by omega
    have d3:decide ((k:Int) < (k:Int)) = false:=by simp
    go_wp2_with (first | ((with_reducible refine zah HB ?_); clear HB; intro w_ HB) | ((with_reducible refine zab ?_); first | refine Kx.l1 HB rfl rfl ?_ | refine Kx.la HB rfl ?_) | ((with_reducible refine zac ?_); first | refine l1g HB rfl rfl rfl ?_ | refine Kx.lag HB rfl rfl ?_))
    go_ret
    exact ⟨rfl,HB.out.below⟩
   obtain ⟨o,ho⟩ : ∃ o,os[k]? = some o:=⟨os[k]'(by rw [HLen.out]; exact hlt),List.getElem?_eq_getElem _⟩
   have hoa:=(HAt.out o (List.mem_of_getElem? ho)).a
   obtain ⟨ad,rfl,-,hcc⟩:=Rd.part Tu.zdz HRd.out ho (by decide)
   have d3:(k:Int) < (len:Int):=by omega
   have HC2:=Lib.hid (fun j v (hj:o.cells[j]? = some v) => (by rw [addr_add_add]; exact hcc j v hj:w.cell? ((ad.add (k * 4)).add j) = some v))
   clear hcc ho HAt HRd HLen
   go_upto_region 16 with (first | ((with_reducible refine zaq ?_); (refine zhe rfl 69 _ rfl _ rfl o.cells _ (fun j v hv => HB.out.old (HC2.out j v hv)) Tryz.underlying69 rfl hio ?_)) | (first | ((with_reducible refine zah HB ?_); clear HB; intro w_ HB) | ((with_reducible refine zad (d:=some 10) ?_); (first | refine boxa HB rfl ?_ | refine boxt HB rfl rfl ?_ | refine box1 HB rfl rfl ?_); clear HB; intro b10 w_ HB; refine Kx.fr ?_) | ((with_reducible refine zaa (d:=some 10) ?_); (first | refine ala HB ?_ | refine al1 HB ?_); clear HB; intro b10 w_ HB; refine Kx.fr ?_) | ((with_reducible refine zad ?_); (first | refine boxa HB rfl ?_ | refine boxt HB rfl rfl ?_ | refine box1 HB rfl rfl ?_); clear HB; intro b_ w_ HB; refine Kx.fr ?_) | ((with_reducible refine zaa ?_); (first | refine ala HB ?_ | refine al1 HB ?_); clear HB; intro b_ w_ HB; refine Kx.fr ?_) | ((with_reducible refine zab ?_); first | refine Kx.l1 HB rfl rfl ?_ | refine Kx.la HB rfl ?_ | refine Kx.lo HB rfl HC.out ?_) | ((with_reducible refine zac ?_); first | refine l1g HB rfl rfl rfl ?_ | refine Kx.lag HB rfl rfl ?_ | refine Kx.log HB rfl HC.out rfl ?_) | ((with_reducible refine zae ?_); (first | refine stwa HB rfl rfl ?_ | refine sta HB rfl rfl ?_ | refine Kx.stc HB rfl rfl ?_ | refine Kx.stt HB rfl rfl rfl ?_ | refine Kx.st1 HB rfl rfl rfl ?_); clear HB; intro w_ HB)))
   clear HC2 d3
   have g1:IntKind.i64.wrap o.a = o.a:=by rw [IntKind.wrap_i64]; omega
   obtain ⟨n2,hn2⟩ : ∃ n2,nw + o.a = n2:=⟨_,rfl⟩
   have g2:IntKind.i64.wrap (nw + o.a) = n2:=by rw [IntKind.wrap_i64]; omega
   have g2':wrap64 (nw + o.a) = n2:=by rw [IntWalk.wrap64_in _ (by omega)]; omega
   have hn20:0 ≤ n2 ∧ n2 ≤ 255 * ((k:Int) + 1):=by omega
   have HN2:Hid (nw ≤ n2):=Lib.hid (by omega)
   have HA2:=Lib.hid (HAl.out.later HN2.out)
   have HK0:=Lib.hid (HH0.out.later HN2.out)
   have HK1:=Lib.hid (HH1.out.later HN2.out)
   clear hnw0 hnw1 HAl HH0 HH1
   obtain ⟨tm,htm⟩ : ∃ tm:Nat,bits .and .i64 o.to 255 = (tm:Int):=⟨(o.to % 256).toNat,by rw [and255]; omega⟩
   obtain ⟨ti,hti⟩ : ∃ ti:Nat,ti = tm % 3:=⟨_,rfl⟩
   have hti3:ti < 3:=by omega
   have g3:(tm:Int).tmod 3 = (ti:Int):=by rw [Int.tmod_eq_emod_of_nonneg (Int.natCast_nonneg _)]; omega
   have g4:IntKind.i64.wrap (ti:Int) = (ti:Int):=by rw [IntKind.wrap_i64]; omega
   have hk01:bits .and .i64 o.who 1 = 0 ∨ bits .and .i64 o.who 1 = 1:=by rw [and1]; omega
   obtain ⟨V,hV⟩ : ∃ V,bits BinOp.and IntKind.i64 o.what 3 = V:=⟨_,rfl⟩
   obtain ⟨kk,hkk⟩ : ∃ kk:Int,bits .and .i64 o.who 1 = kk:=⟨_,rfl⟩
   rw [hkk] at hk01
   clear hti
   go_upto_block 4 with (first | ((with_reducible refine zah HB ?_); clear HB; intro w_ HB) | ((with_reducible refine zab ?_); first | refine Kx.l1 HB rfl rfl ?_ | refine Kx.la HB rfl ?_) | ((with_reducible refine zac ?_); first | refine l1g HB rfl rfl rfl ?_ | refine Kx.lag HB rfl rfl ?_))
   go_cut [13,14] from 66 to 119 (fun rv jv wx => ∃ (T':List A1) (F':Fz) (n0' u0' n1' u1':Int) (G0' G1':Nat) (L0' L1':Nat → Int),Hid (T'.length = 3 ∧ ptrs T' = P3 ∧ (∀ t ∈ T',Jm.Ok t.s) ∧ (some ad5,P3) ∈ F') ∧ Hid (Al F' (k * 8200 + 8200) n2 L0' L1' T') ∧ Hid (HI L0' n2 n0' G0' u0') ∧ Hid (HI L1' n2 n1' G1' u1') ∧ Hid (Bxs w wx ((b10,o.cells) :: (b7,[.int .i64 0,.int .i64 n0',.int .u64 (G0':Int),.int .i64 u0',.int .i64 0,.int .i64 n1',.int .u64 (G1':Int),.int .i64 u1']) :: (b4,cf c) :: abx T') (arw T') F'))
   case first =>
    have HAw:=Lib.hid (HA2.out.le (show k * 8200 ≤ k * 8200 + 8200 from Nat.le_add_right ..))
    by_cases v0:V = 0
    ·have e1:(V == 0) = true:=beq_iff_eq.2 v0
     clear v0 HPc
     rcases hk01 with rfl | rfl
     ·have HA1:Hid (∀ W,Calls Tryz.prog 23 #[.agg (⟨0,n0,(G0:Int),u0⟩ : Ho).cells.toArray,.int .i64 0,.int .i64 n2] W fun en w' => en = .returned (.agg #[.int .i64 0,.int .i64 n2,.int .u64 0,.int .i64 u0]) ∧ Below W.heap.size W w'):=Lib.hid (fun W => by
       have:=zm1 ⟨0,n0,(G0:Int),u0⟩ 0 n2 W
       rwa [znu] at this)
      go_wp2_with (first | (go_at_call 23; refine Calls.mono (HA1.out _) ?_; rintro e w_ ⟨rfl,hb_⟩; replace HB:=Lib.hid (HB.out.call hb_); clear hb_) | (first | ((with_reducible refine zah HB ?_); clear HB; intro w_ HB) | ((with_reducible refine zad ?_); (first | refine boxa HB rfl ?_ | refine boxt HB rfl rfl ?_ | refine box1 HB rfl rfl ?_); clear HB; intro b_ w_ HB; refine Kx.fr ?_) | ((with_reducible refine zaa ?_); (first | refine ala HB ?_ | refine al1 HB ?_); clear HB; intro b_ w_ HB; refine Kx.fr ?_) | ((with_reducible refine zab ?_); first | refine Kx.l1 HB rfl rfl ?_ | refine Kx.la HB rfl ?_ | refine Kx.lo HB rfl HC.out ?_) | ((with_reducible refine zac ?_); first | refine l1g HB rfl rfl rfl ?_ | refine Kx.lag HB rfl rfl ?_ | refine Kx.log HB rfl HC.out rfl ?_) | ((with_reducible refine zae ?_); (first | refine stwa HB rfl rfl ?_ | refine sta HB rfl rfl ?_ | refine Kx.stc HB rfl rfl ?_ | refine Kx.stt HB rfl rfl rfl ?_ | refine Kx.st1 HB rfl rfl rfl ?_); clear HB; intro w_ HB)))
      go_meet
      case rel => exact ⟨T,F,n2,u0,n1,u1,0,G1,L0,L1,HT3,HAw,Lib.hid (HK0.out.ask hn20.1),HK1,HB⟩
     ·have HA1:Hid (∀ W,Calls Tryz.prog 23 #[.agg (⟨0,n1,(G1:Int),u1⟩ : Ho).cells.toArray,.int .i64 0,.int .i64 n2] W fun en w' => en = .returned (.agg #[.int .i64 0,.int .i64 n2,.int .u64 0,.int .i64 u1]) ∧ Below W.heap.size W w'):=Lib.hid (fun W => by
       have:=zm1 ⟨0,n1,(G1:Int),u1⟩ 0 n2 W
       rwa [znu] at this)
      go_wp2_with (first | (go_at_call 23; refine Calls.mono (HA1.out _) ?_; rintro e w_ ⟨rfl,hb_⟩; replace HB:=Lib.hid (HB.out.call hb_); clear hb_) | (first | ((with_reducible refine zah HB ?_); clear HB; intro w_ HB) | ((with_reducible refine zad ?_); (first | refine boxa HB rfl ?_ | refine boxt HB rfl rfl ?_ | refine box1 HB rfl rfl ?_); clear HB; intro b_ w_ HB; refine Kx.fr ?_) | ((with_reducible refine zaa ?_); (first | refine ala HB ?_ | refine al1 HB ?_); clear HB; intro b_ w_ HB; refine Kx.fr ?_) | ((with_reducible refine zab ?_); first | refine Kx.l1 HB rfl rfl ?_ | refine Kx.la HB rfl ?_ | refine Kx.lo HB rfl HC.out ?_) | ((with_reducible refine zac ?_); first | refine l1g HB rfl rfl rfl ?_ | refine Kx.lag HB rfl rfl ?_ | refine Kx.log HB rfl HC.out rfl ?_) | ((with_reducible refine zae ?_); (first | refine stwa HB rfl rfl ?_ | refine sta HB rfl rfl ?_ | refine Kx.stc HB rfl rfl ?_ | refine Kx.stt HB rfl rfl rfl ?_ | refine Kx.st1 HB rfl rfl rfl ?_); clear HB; intro w_ HB)))
      go_meet
      case rel => exact ⟨T,F,n0,u0,n2,u1,G0,0,L0,L1,HT3,HAw,HK0,Lib.hid (HK1.out.ask hn20.1),HB⟩
    have e1:(V == 0) = false:=beq_false_of_ne v0
    obtain ⟨t,ht⟩ : ∃ t,T[ti]? = some t:=⟨T[ti]'(by rw [HT3.out.1]; exact hti3),List.getElem?_eq_getElem _⟩
    have HPt:Hid (∀ W lb r',Bxs w W lb r' F → W.cell? (ad5.add ti) = some (.pointer (some ⟨t.ga,0,none⟩))):=Lib.hid (fun W lb r' q => HPc.out ti t T F W lb r' ⟨HT3.out.2.1,HT3.out.2.2.2⟩ ht q)
    obtain ⟨rs,hnb,hnl⟩:=HA2.out ti t ht
    have hsz:Jm.size t.s ≤ 2460000:=by have h:=hnb.sz; have h2:k * 8200 ≤ 300 * 8200:=Nat.mul_le_mul_right _ (by omega); omega
    have HSz:=Lib.hid hsz
    have HTi:=Lib.hid ht
    have HJ0:=acs_pick (l:=[(b10,o.cells),(b7,[.int .i64 0,.int .i64 n0,.int .u64 (G0:Int),.int .i64 u0,.int .i64 0,.int .i64 n1,.int .u64 (G1:Int),.int .i64 u1]),(b4,cf c)]) (r:=[]) HB.out HT3.out.2.2.1 ht
    obtain ⟨ok,KA,KC,RA,RC,HB2⟩:=HJ0
    clear HB
    have HB:Hid (Bxs w _ ((t.g,jcs t.s KA KC RA RC) :: (t.ga,t.a.cells t.g) :: (b10,o.cells) :: (b7,[.int .i64 0,.int .i64 n0,.int .u64 (G0:Int),.int .i64 u0,.int .i64 0,.int .i64 n1,.int .u64 (G1:Int),.int .i64 u1]) :: (b4,cf c) :: abx (T.eraseIdx ti)) (jrow KA KC t.s.kept :: jrow RA RC t.s.rest :: arw (T.eraseIdx ti)) F):=Lib.hid HB2
    have HOk:=Lib.hid ok
    clear HB2 ok v0 HPc hsz ht
    have i1:(ti:Int) < ((3:Nat):Int):=by omega
    have i1':(ti:Int) < 3:=by omega
    by_cases v2:V = 2
    ·have e2:(V == 2) = true:=beq_iff_eq.2 v2
     obtain ⟨rs2,hb2,hl2⟩:=zq6 hnb hnl 0
     have HNb:=Lib.hid hb2
     have HNl:=Lib.hid hl2
     clear hnb hnl hb2 hl2 v2
     go_wp2_with (first | ((with_reducible refine zab ?_); (refine zea 27 _ rfl (ad5.add ti) rfl (Tryz.isAgg27 _) _ (HPt.out _ _ _ HB.out) rfl ?_)) | (go_at_call 9; refine (zm0 (ga:=t.ga) (a:=t.a) (g:=t.g) HB.out).mono ?_; rintro e w_ ⟨rfl,hb_⟩; replace HB:=Lib.hid (HB.out.call hb_); clear hb_) | (go_at_call 11; fail) | (first | ((with_reducible refine zah HB ?_); clear HB; intro w_ HB) | ((with_reducible refine zab ?_); first | refine Kx.l1 HB rfl rfl ?_ | refine Kx.la HB rfl ?_) | ((with_reducible refine zac ?_); first | refine l1g HB rfl rfl rfl ?_ | refine Kx.lag HB rfl rfl ?_)))
     refine (crash_x ⟨HOk.out,_,_,_,_,HB.out⟩ 0 (Nat.le_trans HSz.out (by decide))).mono ?_
     rintro e w3 ⟨rfl,HJ3⟩
     obtain ⟨ok3,KA3,KC3,RA3,RC3,HB3⟩:=HJ3
     clear HB HOk
     have HB:=Lib.hid HB3
     have HOk:=Lib.hid ok3
     clear HB3 ok3
     go_wp2_with (first | ((with_reducible refine zab ?_); (refine zea 27 _ rfl (ad5.add ti) rfl (Tryz.isAgg27 _) _ (HPt.out _ _ _ HB.out) rfl ?_)) | (go_at_call 12; fail) | (first | ((with_reducible refine zah HB ?_); clear HB; intro w_ HB) | ((with_reducible refine zab ?_); first | refine Kx.l1 HB rfl rfl ?_ | refine Kx.la HB rfl ?_) | ((with_reducible refine zac ?_); first | refine l1g HB rfl rfl rfl ?_ | refine Kx.lag HB rfl rfl ?_)))
     refine (zrk ⟨HOk.out,_,_,_,_,HB.out⟩ HNb.out.inv [1,0] 2 (fun q hq => .inr (by rw [List.mem_singleton.1 hq]; exact HNb.out.ta)) HNb.out.tl HNb.out.cf HNb.out.tg rs2 HNb.out.ji (Nat.le_trans (Jm.zge t.s 0) (Nat.le_trans HSz.out (by decide))) HT.out.1 HT.out.2 n2).mono ?_
     rintro e w4 ⟨a',F',er,rfl,HJ4,hst⟩
     obtain ⟨t',e3,e4,e5,e6,hok,HB4⟩:=zia (t:=t) (i:=ti) (T:=T) (l:=[(b10,o.cells),(b7,[.int .i64 0,.int .i64 n0,.int .u64 (G0:Int),.int .i64 u0,.int .i64 0,.int .i64 n1,.int .u64 (G1:Int),.int .i64 u1]),(b4,cf c)]) (r:=[]) HJ4 HT3.out.2.2.1 HTi.out
     have HAn:Hid (Al F' (k * 8200 + 8200) n2 L0 L1 (T.set ti t')):=Lib.hid (HA2.out.put hst.more (Nat.le_add_right ..) (fun _ _ => rfl) (fun _ _ => rfl) ⟨rs2,by rw [e5,e6]; exact (HNb.out.rst hst).wide (fun q hq => hq) (Nat.le_add_right ..),by rw [e5,e6]; exact HNl.out.rst hst⟩)
     have HTn:Hid ((T.set ti t').length = 3 ∧ ptrs (T.set ti t') = P3 ∧ (∀ t ∈ T.set ti t',Jm.Ok t.s) ∧ (some ad5,P3) ∈ F'):=Lib.hid ⟨by rw [List.length_set]; exact HT3.out.1,by rw [zf0 HTi.out e3]; exact HT3.out.2.1,hok,hst.more _ HT3.out.2.2.2⟩
     clear HB HJ4 hst e3 e4 e5 e6 hok
     have HB:Hid (Bxs w w4 ((b10,o.cells) :: (b7,[.int .i64 0,.int .i64 n0,.int .u64 (G0:Int),.int .i64 u0,.int .i64 0,.int .i64 n1,.int .u64 (G1:Int),.int .i64 u1]) :: (b4,cf c) :: abx (T.set ti t')) (arw (T.set ti t')) F'):=Lib.hid HB4
     clear HB4
     go_wp2_with (first | ((with_reducible refine zah HB ?_); clear HB; intro w_ HB) | ((with_reducible refine zab ?_); first | refine Kx.l1 HB rfl rfl ?_ | refine Kx.la HB rfl ?_) | ((with_reducible refine zac ?_); first | refine l1g HB rfl rfl rfl ?_ | refine Kx.lag HB rfl rfl ?_))
     go_meet
     case rel => exact ⟨T.set ti t',F',n0,u0,n1,u1,G0,G1,L0,L1,HTn,HAn,HK0,HK1,HB⟩
    have e2:(V == 2) = false:=beq_false_of_ne v2
    clear v2
    rcases hk01 with rfl | rfl
    ·have hm1:MsOk (qm 10 (ti:Int) n0) Lo.zero:=qm_ok ⟨by decide,by decide⟩ ⟨by omega,by omega⟩ (by have:=HK0.out.hn; exact ⟨by omega,by omega⟩)
     obtain ⟨R,hR⟩ : ∃ R,handle t.a t.s (qm 10 (ti:Int) n0) Lo.zero n2 = R:=⟨_,rfl⟩
     obtain ⟨rs',hst⟩:=zkw (now:=n2) hnb.inv hnb.ji hm1 (qm_in 10 (ti:Int) n0 F)
     rw [hR] at hst
     have HNb:=Lib.hid (hnb.handle (show Pm.I (qm 10 (ti:Int) n0).b from I0) hst)
     have hls:=Nl.step ⟨hnb.cl,hnb.cm⟩ ⟨rfl,.inl rfl⟩ hn20.1 hnl hst
     have HNd:=Lib.hid hnb.inv.node
     have HLt:=Lib.hid hnl.le
     have HCl:Hid (∀ W,Bxs w W ((t.g,jcs t.s KA KC RA RC) :: (t.ga,t.a.cells t.g) :: (b10,o.cells) :: (b7,[.int .i64 0,.int .i64 n0,.int .u64 (G0:Int),.int .i64 u0,.int .i64 0,.int .i64 n1,.int .u64 (G1:Int),.int .i64 u1]) :: (b4,cf c) :: abx (T.eraseIdx ti)) (jrow KA KC t.s.kept :: jrow RA RC t.s.rest :: arw (T.eraseIdx ti)) F → Calls Tryz.prog 14 #[.pointer (some ⟨t.ga,0,none⟩),.agg (mvs (qm 10 (ti:Int) n0) Lo.zero).toArray,.int .i64 n2] W fun e w' => Outs w w' t.ga t.g ((b10,o.cells) :: (b7,[.int .i64 0,.int .i64 n0,.int .u64 (G0:Int),.int .i64 u0,.int .i64 0,.int .i64 n1,.int .u64 (G1:Int),.int .i64 u1]) :: (b4,cf c) :: abx (T.eraseIdx ti)) (arw (T.eraseIdx ti)) F R e):=Lib.hid (fun W q => by
      rw [←hR]
      exact zi4 ⟨HOk.out,KA,KC,RA,RC,q⟩ hnb.inv.ok (qm 10 (ti:Int) n0) Lo.zero n2 hm1 (qm_in 10 (ti:Int) n0 F) HT.out.1 HT.out.2 (Nat.le_trans HSz.out (by decide)))
     have HQB:=Lib.hid (znb 10 (ti:Int) n0)
     clear hm1 hR hst hnb hnl
     obtain ⟨a1,s1,o1⟩:=R
     go_upto_region 20 with (first | ((with_reducible refine zah HB ?_); clear HB; intro w_ HB) | ((with_reducible refine zab ?_); first | refine Kx.l1 HB rfl rfl ?_ | refine Kx.la HB rfl ?_) | ((with_reducible refine zac ?_); first | refine l1g HB rfl rfl rfl ?_ | refine Kx.lag HB rfl rfl ?_))
     have hsubB:∀ w',Bxs w w' ((t.g,jcs t.s KA KC RA RC) :: (t.ga,t.a.cells t.g) :: (b10,o.cells) :: (b7,[.int .i64 0,.int .i64 n0,.int .u64 (G0:Int),.int .i64 u0,.int .i64 0,.int .i64 n1,.int .u64 (G1:Int),.int .i64 u1]) :: (b4,cf c) :: abx (T.eraseIdx ti)) (jrow KA KC t.s.kept :: jrow RA RC t.s.rest :: arw (T.eraseIdx ti)) F → (w'.cell? (ad5.add ti) = some (.pointer (some ⟨t.ga,0,none⟩)) ∧ w'.cell? ⟨b7,1,none⟩ = some (.int .i64 n0)):=fun w' q => ⟨HPt.out _ _ _ q,q.cell (by repeat (first | exact List.Mem.head _ | apply List.Mem.tail)) rfl⟩
     refine Kx.zd2 (fun w' => w'.cell? (ad5.add ti) = some (.pointer (some ⟨t.ga,0,none⟩)) ∧ w'.cell? ⟨b7,1,none⟩ = some (.int .i64 n0)) (fun w' => Bxs w w' ((t.g,jcs t.s KA KC RA RC) :: (t.ga,t.a.cells t.g) :: (b10,o.cells) :: (b7,[.int .i64 0,.int .i64 n0,.int .u64 (G0:Int),.int .i64 u0,.int .i64 0,.int .i64 n1,.int .u64 (G1:Int),.int .i64 u1]) :: (b4,cf c) :: abx (T.eraseIdx ti)) (jrow KA KC t.s.kept :: jrow RA RC t.s.rest :: arw (T.eraseIdx ti)) F) (fun i => false) (by kernel_rfl) HB.out.drew ?_
     refine tkS 0 rfl hsubB ?_
     refine tkS 1 rfl hsubB ?_
     refine tkS 2 rfl hsubB ?_
     refine tkS 3 rfl hsubB ?_ (v:=.pointer (some ⟨t.ga,0,none⟩)) (hy:=fun w1 hB => zfc (ad5.add ti) rfl (Tryz.isAgg27 _) hB.1)
     refine tkS 4 rfl hsubB ?_
     refine tkS 5 rfl hsubB ?_
     refine tkS 6 rfl hsubB ?_
     refine tkS 7 rfl hsubB ?_
     refine tkS 8 rfl hsubB ?_
     refine tkS 9 rfl hsubB ?_
     refine tkS 10 rfl hsubB ?_ (v:=.int .i64 n0) (hy:=fun w1 hB => zfc ⟨b7,1,none⟩ rfl (Tryz.isAgg2 _) hB.2)
     refine tkS 11 rfl hsubB ?_ (v:=.agg (mvs (qm 10 (ti:Int) n0) Lo.zero).toArray) (hy:=fun w1 hB => zdb 37 _ rfl #[(0,.int .i64 10),(1,.int .i64 10),(2,.int .i64 (ti:Int)),(9,.int .i64 2),(6,.int .i64 n0)] (by go_simp; try rfl) _ HQB.out)
     refine tkS 12 rfl hsubB ?_
     cases o1 with
     | none =>
       have hsubJ:∀ w',Jbx w w' t.g s1 ((t.ga,a1.cells t.g) :: (b10,o.cells) :: (b7,[.int .i64 0,.int .i64 n0,.int .u64 (G0:Int),.int .i64 u0,.int .i64 0,.int .i64 n1,.int .u64 (G1:Int),.int .i64 u1]) :: (b4,cf c) :: abx (T.eraseIdx ti)) (arw (T.eraseIdx ti)) F → (w'.cell? (ad5.add ti) = some (.pointer (some ⟨t.ga,0,none⟩)) ∧ w'.cell? ⟨b7,1,none⟩ = some (.int .i64 n0)):=fun w' ⟨ok,_,_,_,_,q⟩ => ⟨HPt.out _ _ _ q,q.cell (by repeat (first | exact List.Mem.head _ | apply List.Mem.tail)) rfl⟩
       refine Kx.zg2 (ι:=Unit) 13 (fun _ => .slice none 0 0) (fun _ w' => Jbx w w' t.g s1 ((t.ga,a1.cells t.g) :: (b10,o.cells) :: (b7,[.int .i64 0,.int .i64 n0,.int .u64 (G0:Int),.int .i64 u0,.int .i64 0,.int .i64 n1,.int .u64 (G1:Int),.int .i64 u1]) :: (b4,cf c) :: abx (T.eraseIdx ti)) (arw (T.eraseIdx ti)) F) () rfl (fun _ => Jbx.bears) (fun _ w' q => hsubJ w' q) ?eHn0 (fun w1 hw => (HCl.out w1 hw).mono fun e w' q => ⟨(),q.1,q.2⟩) ?hHn0
       case eHn0 => (intro w hw; go_simp; try (first | (refine ⟨?_,?_⟩ <;> with_reducible rfl) | with_reducible rfl))
       intro _
       refine tkS 14 rfl hsubJ ?_ (hC:=Jbx.bears)
       refine zaj (by kernel_rfl) ?_
       clear HB hsubB hsubJ HPt
       intro w_ HJ_
       have HJn:=Lib.hid HJ_
       have HNl:=Lib.hid (hls.1 rfl)
       obtain ⟨ok3,KA3,KC3,RA3,RC3,HB3⟩:=HJ_
       have HB:=Lib.hid HB3
       clear HB3 ok3 HCl hls HOk
       obtain ⟨gq,rfl⟩ : ∃ q,q = gk:=⟨_,rfl⟩
       go_wp2_with (first | ((with_reducible refine zah HB ?_); clear HB; intro w_ HB) | ((with_reducible refine zab ?_); first | refine Kx.l1 HB rfl rfl ?_ | refine Kx.la HB rfl ?_) | ((with_reducible refine zac ?_); first | refine l1g HB rfl rfl rfl ?_ | refine Kx.lag HB rfl rfl ?_))
       go_loopg [14] 1 (fun gh jx wr => gh = 1 ∧ jx = .int .i64 0 ∧ Hid (Jbx w wr t.g s1 ((t.ga,a1.cells t.g) :: (b10,o.cells) :: (b7,[.int .i64 0,.int .i64 n0,.int .u64 (G0:Int),.int .i64 u0,.int .i64 0,.int .i64 n1,.int .u64 (G1:Int),.int .i64 u1]) :: (b4,cf c) :: abx (T.eraseIdx ti)) (arw (T.eraseIdx ti)) F))
       case atStart => exact ⟨rfl,rfl,HJn⟩
       case round =>
        clear HB HJn
        obtain ⟨-,rfl,HJn⟩:=hrel
        obtain ⟨t',e3,e4,e5,e6,hok,HB4⟩:=zia (t:=t) (i:=ti) (T:=T) (l:=[(b10,o.cells),(b7,[.int .i64 0,.int .i64 n0,.int .u64 (G0:Int),.int .i64 u0,.int .i64 0,.int .i64 n1,.int .u64 (G1:Int),.int .i64 u1]),(b4,cf c)]) (r:=[]) HJn.out HT3.out.2.2.1 HTi.out
        obtain ⟨ok3,KA3,KC3,RA3,RC3,HB3⟩:=HJn.out
        have HAn:Hid (Al F (k * 8200 + 8200) n2 L0 L1 (T.set ti t')):=Lib.hid (HA2.out.put (fun q hq => hq) (Nat.le_add_right ..) (fun _ _ => rfl) (fun _ _ => rfl) ⟨rs',by rw [e5,e6]; exact HNb.out,by rw [e5,e6]; exact HNl.out⟩)
        have HTn:Hid ((T.set ti t').length = 3 ∧ ptrs (T.set ti t') = P3 ∧ (∀ t ∈ T.set ti t',Jm.Ok t.s) ∧ (some ad5,P3) ∈ F):=Lib.hid ⟨by rw [List.length_set]; exact HT3.out.1,by rw [zf0 HTi.out e3]; exact HT3.out.2.1,hok,HT3.out.2.2.2⟩
        clear HB3 e3 e4 e5 e6 hok HJn HNb HNl
        have HB:Hid (Bxs w wr ((b10,o.cells) :: (b7,[.int .i64 0,.int .i64 n0,.int .u64 (G0:Int),.int .i64 u0,.int .i64 0,.int .i64 n1,.int .u64 (G1:Int),.int .i64 u1]) :: (b4,cf c) :: abx (T.set ti t')) (arw (T.set ti t')) F):=Lib.hid HB4
        clear HB4
        go_wp2_with (first | ((with_reducible refine zah HB ?_); clear HB; intro w_ HB) | ((with_reducible refine zab ?_); first | refine Kx.l1 HB rfl rfl ?_ | refine Kx.la HB rfl ?_) | ((with_reducible refine zac ?_); first | refine l1g HB rfl rfl rfl ?_ | refine Kx.lag HB rfl rfl ?_))
        go_meet
        case rel => exact ⟨T.set ti t',F,n0,u0,n1,u1,G0,G1,L0,L1,HTn,HAn,HK0,HK1,HB⟩
     | some q =>
       obtain ⟨y,lo⟩:=q
       have hls2:=hls.2 y lo rfl
       have HGx:Hid (∃ (Gn:Nat) (un:Int) (L0' L1':Nat → Int),(∀ W,Calls Tryz.prog 24 #[.agg (⟨0,n0,(G0:Int),u0⟩ : Ho).cells.toArray,.agg (cf c).toArray,.agg (mvs y lo).toArray] W fun en w' => en = .returned (.agg #[.int .i64 0,.int .i64 n0,.int .u64 (Gn:Int),.int .i64 un]) ∧ Below W.heap.size W w') ∧ Nl n2 rs' a1 s1 (L0' ti) (L1' ti) ∧ HI L0' n2 n0 Gn un ∧ HI L1' n2 n1 G1 u1 ∧ (∀ j,j ≠ ti → L0' j = L0 j) ∧ (∀ j,j ≠ ti → L1' j = L1 j)):=Lib.hid (by
        have hgr:∀ W,Calls Tryz.prog 24 #[.agg (⟨0,n0,(G0:Int),u0⟩ : Ho).cells.toArray,.agg (cf c).toArray,.agg (mvs y lo).toArray] W fun en w' => en = .returned (.agg (ze7 1 20 ⟨0,n0,(G0:Int),u0⟩ (toMg y lo)).cells.toArray) ∧ Below W.heap.size W w':=fun W => by
         have:=zga ⟨0,n0,(G0:Int),u0⟩ c (toMg y lo) W ⟨Int.natCast_nonneg _,by have:=HK0.out.hg.1; show ((G0:Nat):Int) ≤ _; omega⟩
         rwa [HC.out.2.2.2.2.2.2.1,HC.out.2.2.2.2.2.2.2] at this
        rcases hls2 with ⟨h11,hl⟩ | ⟨h11,hf1,he1,hn1,ha,hb⟩
        ·refine ⟨G0,u0,L0,L1,fun W => ?_,hl,HK0.out,HK1.out,fun _ _ => rfl,fun _ _ => rfl⟩
         have:=hgr W
         rwa [zky h11] at this
        ·obtain ⟨un,hun⟩ : ∃ un,(if Om.most 1 (G0 ||| 2 ^ ti) = true then (if u0 < n0 + 20 then n0 + 20 else u0) else u0) = un:=⟨_,rfl⟩
         have hlt:L0 ti ≤ n2:=by rcases HLt.out with q | q <;> omega
         have hi:=HK0.out.grant hti3 hlt
         have hin:HI (upd L0 ti n2) n2 n0 (G0 ||| 2 ^ ti) un:=by
          rw [←hun]
          split
          ·rename_i hm; exact hi.2 hm
          ·exact hi.1
         refine ⟨G0 ||| 2 ^ ti,un,upd L0 ti n2,L1,fun W => ?_,?_,hin,HK1.out,fun j hj => upd_ne hj,fun _ _ => rfl⟩
         ·have:=hgr W
          rwa [zkx h11 he1 (show y.n = n0 from hn1) (hf1.trans HNd.out) hti3 (by have:=HK0.out.hn; omega),hun] at this
         ·rw [zpc]; exact ha rfl)
       clear hls hls2
       have hsubJ:∀ bx w',Jbx w w' t.g s1 ((bx,mvs y lo) :: (t.ga,a1.cells t.g) :: (b10,o.cells) :: (b7,[.int .i64 0,.int .i64 n0,.int .u64 (G0:Int),.int .i64 u0,.int .i64 0,.int .i64 n1,.int .u64 (G1:Int),.int .i64 u1]) :: (b4,cf c) :: abx (T.eraseIdx ti)) (arw (T.eraseIdx ti)) F → (w'.cell? (ad5.add ti) = some (.pointer (some ⟨t.ga,0,none⟩)) ∧ w'.cell? ⟨b7,1,none⟩ = some (.int .i64 n0)):=fun bx w' ⟨ok,_,_,_,_,q⟩ => ⟨HPt.out _ _ _ q,q.cell (by repeat (first | exact List.Mem.head _ | apply List.Mem.tail)) rfl⟩
       refine Kx.zg2 (ι:=Nat) 13 (fun bx => .slice (some ⟨bx,0,none⟩) 1 1) (fun bx w' => Jbx w w' t.g s1 ((bx,mvs y lo) :: (t.ga,a1.cells t.g) :: (b10,o.cells) :: (b7,[.int .i64 0,.int .i64 n0,.int .u64 (G0:Int),.int .i64 u0,.int .i64 0,.int .i64 n1,.int .u64 (G1:Int),.int .i64 u1]) :: (b4,cf c) :: abx (T.eraseIdx ti)) (arw (T.eraseIdx ti)) F) 0 rfl (fun _ => Jbx.bears) (fun bx w' q => hsubJ bx w' q) ?eHs0 (fun w1 hw => (HCl.out w1 hw).mono fun e w' ⟨b,h1,h2⟩ => ⟨b,h1,h2⟩) ?hHs0
       case eHs0 => (intro w hw; go_simp; try (first | (refine ⟨?_,?_⟩ <;> with_reducible rfl) | with_reducible rfl))
       intro bx
       refine tkS 14 rfl (hsubJ bx) ?_ (hC:=Jbx.bears)
       refine zaj (by kernel_rfl) ?_
       clear HB hsubB hsubJ HPt
       intro w_ HJ_
       have HJn:=Lib.hid HJ_
       obtain ⟨Gn,un,L0',L1',hg1,hnl,hi0,hi1,hq0,hq1⟩:=HGx.out
       have HG1:=Lib.hid hg1
       have HNl:=Lib.hid hnl
       have HI0:=Lib.hid hi0
       have HI1:=Lib.hid hi1
       have HQ0:=Lib.hid hq0
       have HQ1:=Lib.hid hq1
       obtain ⟨ok3,KA3,KC3,RA3,RC3,HB3⟩:=HJ_
       have HB:=Lib.hid HB3
       clear HB3 ok3 HCl HOk HGx hg1 hnl hi0 hi1 hq0 hq1 HK0 HK1
       obtain ⟨gq,rfl⟩ : ∃ q,q = gk:=⟨_,rfl⟩
       go_wp2_with (first | ((with_reducible refine zah HB ?_); clear HB; intro w_ HB) | ((with_reducible refine zab ?_); first | refine Kx.l1 HB rfl rfl ?_ | refine Kx.la HB rfl ?_) | ((with_reducible refine zac ?_); first | refine l1g HB rfl rfl rfl ?_ | refine Kx.lag HB rfl rfl ?_))
       go_loopg [14] 2 (fun gh jx wr => ∃ (Gx:Nat) (ux:Int),Hid (Jbx w wr t.g s1 ((bx,mvs y lo) :: (t.ga,a1.cells t.g) :: (b10,o.cells) :: (b7,[.int .i64 0,.int .i64 n0,.int .u64 (Gx:Int),.int .i64 ux,.int .i64 0,.int .i64 n1,.int .u64 (G1:Int),.int .i64 u1]) :: (b4,cf c) :: abx (T.eraseIdx ti)) (arw (T.eraseIdx ti)) F) ∧ ((gh = 2 ∧ jx = .int .i64 0 ∧ Gx = G0 ∧ ux = u0) ∨ (gh = 1 ∧ jx = .int .i64 1 ∧ Gx = Gn ∧ ux = un)))
       case atStart => exact ⟨G0,u0,HJn,.inl ⟨rfl,rfl,rfl,rfl⟩⟩
       case round =>
        clear HB HJn
        obtain ⟨Gx,ux,HJn,hph⟩:=hrel
        rcases hph with ⟨hg1,rfl,rfl,rfl⟩ | ⟨hg1,rfl,rfl,rfl⟩
        ·obtain ⟨ok3,KA3,KC3,RA3,RC3,HB3⟩:=HJn.out
         have HB:=Lib.hid HB3
         have HOk3:=Lib.hid ok3
         clear HB3 ok3 HJn
         go_upto_region 24 with (first | ((with_reducible refine zah HB ?_); clear HB; intro w_ HB) | ((with_reducible refine zab ?_); first | refine Kx.l1 HB rfl rfl ?_ | refine Kx.la HB rfl ?_) | ((with_reducible refine zac ?_); first | refine l1g HB rfl rfl rfl ?_ | refine Kx.lag HB rfl rfl ?_))
         refine zam HB (fun i => i == 11) (by kernel_rfl) ?_
         refine Kx.tk 0 rfl ?_
         refine Kx.tk 1 rfl ?_
         refine Kx.tk 2 rfl ?_
         first | refine xl1 3 rfl rfl rfl ?_ | refine xla 3 rfl rfl ?_ | refine Kx.xlo 3 rfl rfl HC.out ?_
         first | refine xl1 4 rfl rfl rfl ?_ | refine xla 4 rfl rfl ?_ | refine Kx.xlo 4 rfl rfl HC.out ?_
         refine Kx.tk 5 rfl ?_
         refine Kx.tk 6 rfl ?_
         refine Kx.tk 7 rfl ?_
         first | refine xl1 8 rfl rfl rfl ?_ | refine xla 8 rfl rfl ?_ | refine Kx.xlo 8 rfl rfl HC.out ?_
         refine zci (i:=9) (v:=?v9_1) (f:=?g9_1) (args:=?s9_1) (a':=?a9_1) (by first | exact Kx.za8 | exact zcr | assumption) rfl (by kernel_rfl) (by kernel_rfl) (by kernel_rfl) (fun _ _ _ h => h) (by kernel_rfl) ?c9_1 ?w9_1 ?y9_1 ?f9_1 ?r9_1
         case w9_1 => kernel_rfl
         case y9_1 => (intro W hW; go_simp; first | (refine ⟨?_,?_⟩ <;> with_reducible rfl) | with_reducible rfl)
         case c9_1 => (intro W hW; refine Calls.mono (HG1.out W) ?_; rintro e w_ ⟨rfl,hb_⟩; refine ⟨?_,by first | exact hb_ | exact hb_ ▸ Below.refl _ _⟩; with_reducible rfl)
         case f9_1 => (go_simp; try with_reducible rfl)
         refine Kx.tk 10 rfl ?_
         first | (refine zao (i:=11) rfl (by kernel_rfl) (by kernel_rfl) (by rfl) rfl _ _ _ rfl _ rfl _ rfl _ (by rfl) (fun w => (Tryz.sizeOf66 w)) (by rfl) ?_) | (refine zao (i:=11) rfl (by kernel_rfl) (by kernel_rfl) (by rfl) rfl _ _ _ rfl _ rfl _ rfl _ (by rfl) (fun w => (Tryz.sizeOf24 w)) (by rfl) ?_) | (refine zao (i:=11) rfl (by kernel_rfl) (by kernel_rfl) (by rfl) rfl _ _ _ rfl _ rfl _ rfl _ (by rfl) (fun w => (Tryz.sizeOf37 w)) (by rfl) ?_) | (refine zao (i:=11) rfl (by kernel_rfl) (by kernel_rfl) (by rfl) rfl _ _ _ rfl _ rfl _ rfl _ (by rfl) (fun w => (Tryz.sizeOf3 w)) (by rfl) ?_) | (refine zao (i:=11) rfl (by kernel_rfl) (by kernel_rfl) (by rfl) rfl _ _ _ rfl _ rfl _ rfl _ (by rfl) (fun w => (Tryz.sizeOf2 w)) (by rfl) ?_) | (refine zao (i:=11) rfl (by kernel_rfl) (by kernel_rfl) (by rfl) rfl _ _ _ rfl _ rfl _ rfl _ (by rfl) (fun w => (Tryz.sizeOf32 w)) (by rfl) ?_) | (refine zat (i:=11) rfl (by kernel_rfl) (by kernel_rfl) (by rfl) rfl _ _ _ rfl _ rfl _ rfl _ _ (by simp [Kx.splice] <;> rfl) (by simp) (fun w => (Tryz.sizeOf66 w)) (by rfl) ?_) | (refine zat (i:=11) rfl (by kernel_rfl) (by kernel_rfl) (by rfl) rfl _ _ _ rfl _ rfl _ rfl _ _ (by simp [Kx.splice] <;> rfl) (by simp) (fun w => (Tryz.sizeOf24 w)) (by rfl) ?_) | (refine zat (i:=11) rfl (by kernel_rfl) (by kernel_rfl) (by rfl) rfl _ _ _ rfl _ rfl _ rfl _ _ (by simp [Kx.splice] <;> rfl) (by simp) (fun w => (Tryz.sizeOf37 w)) (by rfl) ?_) | (refine zat (i:=11) rfl (by kernel_rfl) (by kernel_rfl) (by rfl) rfl _ _ _ rfl _ rfl _ rfl _ _ (by simp [Kx.splice] <;> rfl) (by simp) (fun w => (Tryz.sizeOf3 w)) (by rfl) ?_) | (refine zat (i:=11) rfl (by kernel_rfl) (by kernel_rfl) (by rfl) rfl _ _ _ rfl _ rfl _ rfl _ _ (by simp [Kx.splice] <;> rfl) (by simp) (fun w => (Tryz.sizeOf2 w)) (by rfl) ?_) | (refine zat (i:=11) rfl (by kernel_rfl) (by kernel_rfl) (by rfl) rfl _ _ _ rfl _ rfl _ rfl _ _ (by simp [Kx.splice] <;> rfl) (by simp) (fun w => (Tryz.sizeOf32 w)) (by rfl) ?_) | (refine zas (i:=11) rfl (by kernel_rfl) (by kernel_rfl) (by rfl) rfl _ _ _ rfl _ rfl rfl _ _ (by simp <;> rfl) (by simp) (fun w => (Tryz.sizeOf66 w)) ?_) | (refine zas (i:=11) rfl (by kernel_rfl) (by kernel_rfl) (by rfl) rfl _ _ _ rfl _ rfl rfl _ _ (by simp <;> rfl) (by simp) (fun w => (Tryz.sizeOf24 w)) ?_) | (refine zas (i:=11) rfl (by kernel_rfl) (by kernel_rfl) (by rfl) rfl _ _ _ rfl _ rfl rfl _ _ (by simp <;> rfl) (by simp) (fun w => (Tryz.sizeOf37 w)) ?_) | (refine zas (i:=11) rfl (by kernel_rfl) (by kernel_rfl) (by rfl) rfl _ _ _ rfl _ rfl rfl _ _ (by simp <;> rfl) (by simp) (fun w => (Tryz.sizeOf3 w)) ?_) | (refine zas (i:=11) rfl (by kernel_rfl) (by kernel_rfl) (by rfl) rfl _ _ _ rfl _ rfl rfl _ _ (by simp <;> rfl) (by simp) (fun w => (Tryz.sizeOf2 w)) ?_) | (refine zas (i:=11) rfl (by kernel_rfl) (by kernel_rfl) (by rfl) rfl _ _ _ rfl _ rfl rfl _ _ (by simp <;> rfl) (by simp) (fun w => (Tryz.sizeOf32 w)) ?_) | (refine zar (i:=11) rfl (by kernel_rfl) (by kernel_rfl) (by rfl) rfl _ _ _ rfl _ rfl _ rfl rfl _ _ (by simp <;> rfl) (by simp) (fun w => (Tryz.sizeOf66 w)) ?_) | (refine zar (i:=11) rfl (by kernel_rfl) (by kernel_rfl) (by rfl) rfl _ _ _ rfl _ rfl _ rfl rfl _ _ (by simp <;> rfl) (by simp) (fun w => (Tryz.sizeOf24 w)) ?_) | (refine zar (i:=11) rfl (by kernel_rfl) (by kernel_rfl) (by rfl) rfl _ _ _ rfl _ rfl _ rfl rfl _ _ (by simp <;> rfl) (by simp) (fun w => (Tryz.sizeOf37 w)) ?_) | (refine zar (i:=11) rfl (by kernel_rfl) (by kernel_rfl) (by rfl) rfl _ _ _ rfl _ rfl _ rfl rfl _ _ (by simp <;> rfl) (by simp) (fun w => (Tryz.sizeOf3 w)) ?_) | (refine zar (i:=11) rfl (by kernel_rfl) (by kernel_rfl) (by rfl) rfl _ _ _ rfl _ rfl _ rfl rfl _ _ (by simp <;> rfl) (by simp) (fun w => (Tryz.sizeOf2 w)) ?_) | (refine zar (i:=11) rfl (by kernel_rfl) (by kernel_rfl) (by rfl) rfl _ _ _ rfl _ rfl _ rfl rfl _ _ (by simp <;> rfl) (by simp) (fun w => (Tryz.sizeOf32 w)) ?_)
         refine zaj (by kernel_rfl) ?_
         clear HB
         intro w_ HB_
         have HB:=Lib.hid HB_
         clear HB_
         go_wp2_with (first | ((with_reducible refine zah HB ?_); clear HB; intro w_ HB) | ((with_reducible refine zab ?_); first | refine Kx.l1 HB rfl rfl ?_ | refine Kx.la HB rfl ?_) | ((with_reducible refine zac ?_); first | refine l1g HB rfl rfl rfl ?_ | refine Kx.lag HB rfl rfl ?_))
         go_roundg 1
         case measure => omega
         case rel => exact ⟨Gn,un,Lib.hid ⟨HOk3.out,_,_,_,_,HB.out⟩,.inr ⟨rfl,rfl,rfl,rfl⟩⟩
        ·obtain ⟨ok3,KA3,KC3,RA3,RC3,HB3⟩:=HJn.out
         obtain ⟨t',e3,e4,e5,e6,hok,HB4⟩:=zia (t:=t) (i:=ti) (T:=T) (l:=[(b10,o.cells),(b7,[.int .i64 0,.int .i64 n0,.int .u64 (Gx:Int),.int .i64 ux,.int .i64 0,.int .i64 n1,.int .u64 (G1:Int),.int .i64 u1]),(b4,cf c)]) (r:=[]) HJn.out.tail HT3.out.2.2.1 HTi.out
         have HAn:Hid (Al F (k * 8200 + 8200) n2 L0' L1' (T.set ti t')):=Lib.hid (HA2.out.put (fun q hq => hq) (Nat.le_add_right ..) HQ0.out HQ1.out ⟨rs',by rw [e5,e6]; exact HNb.out,by rw [e5,e6]; exact HNl.out⟩)
         have HTn:Hid ((T.set ti t').length = 3 ∧ ptrs (T.set ti t') = P3 ∧ (∀ t ∈ T.set ti t',Jm.Ok t.s) ∧ (some ad5,P3) ∈ F):=Lib.hid ⟨by rw [List.length_set]; exact HT3.out.1,by rw [zf0 HTi.out e3]; exact HT3.out.2.1,hok,HT3.out.2.2.2⟩
         clear HB3 e3 e4 e5 e6 hok HJn HNb HNl
         have HB:Hid (Bxs w wr ((b10,o.cells) :: (b7,[.int .i64 0,.int .i64 n0,.int .u64 (Gx:Int),.int .i64 ux,.int .i64 0,.int .i64 n1,.int .u64 (G1:Int),.int .i64 u1]) :: (b4,cf c) :: abx (T.set ti t')) (arw (T.set ti t')) F):=Lib.hid HB4
         clear HB4
         go_wp2_with (first | ((with_reducible refine zah HB ?_); clear HB; intro w_ HB) | ((with_reducible refine zab ?_); first | refine Kx.l1 HB rfl rfl ?_ | refine Kx.la HB rfl ?_) | ((with_reducible refine zac ?_); first | refine l1g HB rfl rfl rfl ?_ | refine Kx.lag HB rfl rfl ?_))
         go_meet
         case rel => exact ⟨T.set ti t',F,n0,ux,n1,u1,Gx,G1,L0',L1',HTn,HAn,HI0,HI1,HB⟩
    ·have hm1:MsOk (qm 11 (ti:Int) n1) Lo.zero:=qm_ok ⟨by decide,by decide⟩ ⟨by omega,by omega⟩ (by have:=HK1.out.hn; exact ⟨by omega,by omega⟩)
     obtain ⟨R,hR⟩ : ∃ R,handle t.a t.s (qm 11 (ti:Int) n1) Lo.zero n2 = R:=⟨_,rfl⟩
     obtain ⟨rs',hst⟩:=zkw (now:=n2) hnb.inv hnb.ji hm1 (qm_in 11 (ti:Int) n1 F)
     rw [hR] at hst
     have HNb:=Lib.hid (hnb.handle (show Pm.I (qm 11 (ti:Int) n1).b from I0) hst)
     have hls:=Nl.step ⟨hnb.cl,hnb.cm⟩ ⟨rfl,.inr rfl⟩ hn20.1 hnl hst
     have HNd:=Lib.hid hnb.inv.node
     have HLt:=Lib.hid hnl.le
     have HCl:Hid (∀ W,Bxs w W ((t.g,jcs t.s KA KC RA RC) :: (t.ga,t.a.cells t.g) :: (b10,o.cells) :: (b7,[.int .i64 0,.int .i64 n0,.int .u64 (G0:Int),.int .i64 u0,.int .i64 0,.int .i64 n1,.int .u64 (G1:Int),.int .i64 u1]) :: (b4,cf c) :: abx (T.eraseIdx ti)) (jrow KA KC t.s.kept :: jrow RA RC t.s.rest :: arw (T.eraseIdx ti)) F → Calls Tryz.prog 14 #[.pointer (some ⟨t.ga,0,none⟩),.agg (mvs (qm 11 (ti:Int) n1) Lo.zero).toArray,.int .i64 n2] W fun e w' => Outs w w' t.ga t.g ((b10,o.cells) :: (b7,[.int .i64 0,.int .i64 n0,.int .u64 (G0:Int),.int .i64 u0,.int .i64 0,.int .i64 n1,.int .u64 (G1:Int),.int .i64 u1]) :: (b4,cf c) :: abx (T.eraseIdx ti)) (arw (T.eraseIdx ti)) F R e):=Lib.hid (fun W q => by
      rw [←hR]
      exact zi4 ⟨HOk.out,KA,KC,RA,RC,q⟩ hnb.inv.ok (qm 11 (ti:Int) n1) Lo.zero n2 hm1 (qm_in 11 (ti:Int) n1 F) HT.out.1 HT.out.2 (Nat.le_trans HSz.out (by decide)))
     have HQB:=Lib.hid (znb 11 (ti:Int) n1)
     clear hm1 hR hst hnb hnl
     obtain ⟨a1,s1,o1⟩:=R
     go_upto_region 20 with (first | ((with_reducible refine zah HB ?_); clear HB; intro w_ HB) | ((with_reducible refine zab ?_); first | refine Kx.l1 HB rfl rfl ?_ | refine Kx.la HB rfl ?_) | ((with_reducible refine zac ?_); first | refine l1g HB rfl rfl rfl ?_ | refine Kx.lag HB rfl rfl ?_))
     have hsubB:∀ w',Bxs w w' ((t.g,jcs t.s KA KC RA RC) :: (t.ga,t.a.cells t.g) :: (b10,o.cells) :: (b7,[.int .i64 0,.int .i64 n0,.int .u64 (G0:Int),.int .i64 u0,.int .i64 0,.int .i64 n1,.int .u64 (G1:Int),.int .i64 u1]) :: (b4,cf c) :: abx (T.eraseIdx ti)) (jrow KA KC t.s.kept :: jrow RA RC t.s.rest :: arw (T.eraseIdx ti)) F → (w'.cell? (ad5.add ti) = some (.pointer (some ⟨t.ga,0,none⟩)) ∧ w'.cell? ⟨b7,5,none⟩ = some (.int .i64 n1)):=fun w' q => ⟨HPt.out _ _ _ q,q.cell (by repeat (first | exact List.Mem.head _ | apply List.Mem.tail)) rfl⟩
     refine Kx.zd2 (fun w' => w'.cell? (ad5.add ti) = some (.pointer (some ⟨t.ga,0,none⟩)) ∧ w'.cell? ⟨b7,5,none⟩ = some (.int .i64 n1)) (fun w' => Bxs w w' ((t.g,jcs t.s KA KC RA RC) :: (t.ga,t.a.cells t.g) :: (b10,o.cells) :: (b7,[.int .i64 0,.int .i64 n0,.int .u64 (G0:Int),.int .i64 u0,.int .i64 0,.int .i64 n1,.int .u64 (G1:Int),.int .i64 u1]) :: (b4,cf c) :: abx (T.eraseIdx ti)) (jrow KA KC t.s.kept :: jrow RA RC t.s.rest :: arw (T.eraseIdx ti)) F) (fun i => false) (by kernel_rfl) HB.out.drew ?_
     refine tkS 0 rfl hsubB ?_
     refine tkS 1 rfl hsubB ?_
     refine tkS 2 rfl hsubB ?_
     refine tkS 3 rfl hsubB ?_ (v:=.pointer (some ⟨t.ga,0,none⟩)) (hy:=fun w1 hB => zfc (ad5.add ti) rfl (Tryz.isAgg27 _) hB.1)
     refine tkS 4 rfl hsubB ?_
     refine tkS 5 rfl hsubB ?_
     refine tkS 6 rfl hsubB ?_
     refine tkS 7 rfl hsubB ?_
     refine tkS 8 rfl hsubB ?_
     refine tkS 9 rfl hsubB ?_
     refine tkS 10 rfl hsubB ?_ (v:=.int .i64 n1) (hy:=fun w1 hB => zfc ⟨b7,5,none⟩ rfl (Tryz.isAgg2 _) hB.2)
     refine tkS 11 rfl hsubB ?_ (v:=.agg (mvs (qm 11 (ti:Int) n1) Lo.zero).toArray) (hy:=fun w1 hB => zdb 37 _ rfl #[(0,.int .i64 10),(1,.int .i64 11),(2,.int .i64 (ti:Int)),(9,.int .i64 2),(6,.int .i64 n1)] (by go_simp; try rfl) _ HQB.out)
     refine tkS 12 rfl hsubB ?_
     cases o1 with
     | none =>
       have hsubJ:∀ w',Jbx w w' t.g s1 ((t.ga,a1.cells t.g) :: (b10,o.cells) :: (b7,[.int .i64 0,.int .i64 n0,.int .u64 (G0:Int),.int .i64 u0,.int .i64 0,.int .i64 n1,.int .u64 (G1:Int),.int .i64 u1]) :: (b4,cf c) :: abx (T.eraseIdx ti)) (arw (T.eraseIdx ti)) F → (w'.cell? (ad5.add ti) = some (.pointer (some ⟨t.ga,0,none⟩)) ∧ w'.cell? ⟨b7,5,none⟩ = some (.int .i64 n1)):=fun w' ⟨ok,_,_,_,_,q⟩ => ⟨HPt.out _ _ _ q,q.cell (by repeat (first | exact List.Mem.head _ | apply List.Mem.tail)) rfl⟩
       refine Kx.zg2 (ι:=Unit) 13 (fun _ => .slice none 0 0) (fun _ w' => Jbx w w' t.g s1 ((t.ga,a1.cells t.g) :: (b10,o.cells) :: (b7,[.int .i64 0,.int .i64 n0,.int .u64 (G0:Int),.int .i64 u0,.int .i64 0,.int .i64 n1,.int .u64 (G1:Int),.int .i64 u1]) :: (b4,cf c) :: abx (T.eraseIdx ti)) (arw (T.eraseIdx ti)) F) () rfl (fun _ => Jbx.bears) (fun _ w' q => hsubJ w' q) ?eHn1 (fun w1 hw => (HCl.out w1 hw).mono fun e w' q => ⟨(),q.1,q.2⟩) ?hHn1
       case eHn1 => (intro w hw; go_simp; try (first | (refine ⟨?_,?_⟩ <;> with_reducible rfl) | with_reducible rfl))
       intro _
       refine tkS 14 rfl hsubJ ?_ (hC:=Jbx.bears)
       refine zaj (by kernel_rfl) ?_
       clear HB hsubB hsubJ HPt
       intro w_ HJ_
       have HJn:=Lib.hid HJ_
       have HNl:=Lib.hid (hls.1 rfl)
       obtain ⟨ok3,KA3,KC3,RA3,RC3,HB3⟩:=HJ_
       have HB:=Lib.hid HB3
       clear HB3 ok3 HCl hls HOk
       obtain ⟨gq,rfl⟩ : ∃ q,q = gk:=⟨_,rfl⟩
       go_wp2_with (first | ((with_reducible refine zah HB ?_); clear HB; intro w_ HB) | ((with_reducible refine zab ?_); first | refine Kx.l1 HB rfl rfl ?_ | refine Kx.la HB rfl ?_) | ((with_reducible refine zac ?_); first | refine l1g HB rfl rfl rfl ?_ | refine Kx.lag HB rfl rfl ?_))
       go_loopg [14] 1 (fun gh jx wr => gh = 1 ∧ jx = .int .i64 0 ∧ Hid (Jbx w wr t.g s1 ((t.ga,a1.cells t.g) :: (b10,o.cells) :: (b7,[.int .i64 0,.int .i64 n0,.int .u64 (G0:Int),.int .i64 u0,.int .i64 0,.int .i64 n1,.int .u64 (G1:Int),.int .i64 u1]) :: (b4,cf c) :: abx (T.eraseIdx ti)) (arw (T.eraseIdx ti)) F))
       case atStart => exact ⟨rfl,rfl,HJn⟩
       case round =>
        clear HB HJn
        obtain ⟨-,rfl,HJn⟩:=hrel
        obtain ⟨t',e3,e4,e5,e6,hok,HB4⟩:=zia (t:=t) (i:=ti) (T:=T) (l:=[(b10,o.cells),(b7,[.int .i64 0,.int .i64 n0,.int .u64 (G0:Int),.int .i64 u0,.int .i64 0,.int .i64 n1,.int .u64 (G1:Int),.int .i64 u1]),(b4,cf c)]) (r:=[]) HJn.out HT3.out.2.2.1 HTi.out
        obtain ⟨ok3,KA3,KC3,RA3,RC3,HB3⟩:=HJn.out
        have HAn:Hid (Al F (k * 8200 + 8200) n2 L0 L1 (T.set ti t')):=Lib.hid (HA2.out.put (fun q hq => hq) (Nat.le_add_right ..) (fun _ _ => rfl) (fun _ _ => rfl) ⟨rs',by rw [e5,e6]; exact HNb.out,by rw [e5,e6]; exact HNl.out⟩)
        have HTn:Hid ((T.set ti t').length = 3 ∧ ptrs (T.set ti t') = P3 ∧ (∀ t ∈ T.set ti t',Jm.Ok t.s) ∧ (some ad5,P3) ∈ F):=Lib.hid ⟨by rw [List.length_set]; exact HT3.out.1,by rw [zf0 HTi.out e3]; exact HT3.out.2.1,hok,HT3.out.2.2.2⟩
        clear HB3 e3 e4 e5 e6 hok HJn HNb HNl
        have HB:Hid (Bxs w wr ((b10,o.cells) :: (b7,[.int .i64 0,.int .i64 n0,.int .u64 (G0:Int),.int .i64 u0,.int .i64 0,.int .i64 n1,.int .u64 (G1:Int),.int .i64 u1]) :: (b4,cf c) :: abx (T.set ti t')) (arw (T.set ti t')) F):=Lib.hid HB4
        clear HB4
        go_wp2_with (first | ((with_reducible refine zah HB ?_); clear HB; intro w_ HB) | ((with_reducible refine zab ?_); first | refine Kx.l1 HB rfl rfl ?_ | refine Kx.la HB rfl ?_) | ((with_reducible refine zac ?_); first | refine l1g HB rfl rfl rfl ?_ | refine Kx.lag HB rfl rfl ?_))
        go_meet
        case rel => exact ⟨T.set ti t',F,n0,u0,n1,u1,G0,G1,L0,L1,HTn,HAn,HK0,HK1,HB⟩
     | some q =>
       obtain ⟨y,lo⟩:=q
       have hls2:=hls.2 y lo rfl
       have HGx:Hid (∃ (Gn:Nat) (un:Int) (L0' L1':Nat → Int),(∀ W,Calls Tryz.prog 24 #[.agg (⟨0,n1,(G1:Int),u1⟩ : Ho).cells.toArray,.agg (cf c).toArray,.agg (mvs y lo).toArray] W fun en w' => en = .returned (.agg #[.int .i64 0,.int .i64 n1,.int .u64 (Gn:Int),.int .i64 un]) ∧ Below W.heap.size W w') ∧ Nl n2 rs' a1 s1 (L0' ti) (L1' ti) ∧ HI L0' n2 n0 G0 u0 ∧ HI L1' n2 n1 Gn un ∧ (∀ j,j ≠ ti → L0' j = L0 j) ∧ (∀ j,j ≠ ti → L1' j = L1 j)):=Lib.hid (by
        have hgr:∀ W,Calls Tryz.prog 24 #[.agg (⟨0,n1,(G1:Int),u1⟩ : Ho).cells.toArray,.agg (cf c).toArray,.agg (mvs y lo).toArray] W fun en w' => en = .returned (.agg (ze7 1 20 ⟨0,n1,(G1:Int),u1⟩ (toMg y lo)).cells.toArray) ∧ Below W.heap.size W w':=fun W => by
         have:=zga ⟨0,n1,(G1:Int),u1⟩ c (toMg y lo) W ⟨Int.natCast_nonneg _,by have:=HK1.out.hg.1; show ((G1:Nat):Int) ≤ _; omega⟩
         rwa [HC.out.2.2.2.2.2.2.1,HC.out.2.2.2.2.2.2.2] at this
        rcases hls2 with ⟨h11,hl⟩ | ⟨h11,hf1,he1,hn1,ha,hb⟩
        ·refine ⟨G1,u1,L0,L1,fun W => ?_,hl,HK0.out,HK1.out,fun _ _ => rfl,fun _ _ => rfl⟩
         have:=hgr W
         rwa [zky h11] at this
        ·obtain ⟨un,hun⟩ : ∃ un,(if Om.most 1 (G1 ||| 2 ^ ti) = true then (if u1 < n1 + 20 then n1 + 20 else u1) else u1) = un:=⟨_,rfl⟩
         have hlt:L1 ti ≤ n2:=by rcases HLt.out with q | q <;> omega
         have hi:=HK1.out.grant hti3 hlt
         have hin:HI (upd L1 ti n2) n2 n1 (G1 ||| 2 ^ ti) un:=by
          rw [←hun]
          split
          ·rename_i hm; exact hi.2 hm
          ·exact hi.1
         refine ⟨G1 ||| 2 ^ ti,un,L0,upd L1 ti n2,fun W => ?_,?_,HK0.out,hin,fun _ _ => rfl,fun j hj => upd_ne hj⟩
         ·have:=hgr W
          rwa [zkx h11 he1 (show y.n = n1 from hn1) (hf1.trans HNd.out) hti3 (by have:=HK1.out.hn; omega),hun] at this
         ·rw [zpc]; exact hb rfl)
       clear hls hls2
       have hsubJ:∀ bx w',Jbx w w' t.g s1 ((bx,mvs y lo) :: (t.ga,a1.cells t.g) :: (b10,o.cells) :: (b7,[.int .i64 0,.int .i64 n0,.int .u64 (G0:Int),.int .i64 u0,.int .i64 0,.int .i64 n1,.int .u64 (G1:Int),.int .i64 u1]) :: (b4,cf c) :: abx (T.eraseIdx ti)) (arw (T.eraseIdx ti)) F → (w'.cell? (ad5.add ti) = some (.pointer (some ⟨t.ga,0,none⟩)) ∧ w'.cell? ⟨b7,5,none⟩ = some (.int .i64 n1)):=fun bx w' ⟨ok,_,_,_,_,q⟩ => ⟨HPt.out _ _ _ q,q.cell (by repeat (first | exact List.Mem.head _ | apply List.Mem.tail)) rfl⟩
       refine Kx.zg2 (ι:=Nat) 13 (fun bx => .slice (some ⟨bx,0,none⟩) 1 1) (fun bx w' => Jbx w w' t.g s1 ((bx,mvs y lo) :: (t.ga,a1.cells t.g) :: (b10,o.cells) :: (b7,[.int .i64 0,.int .i64 n0,.int .u64 (G0:Int),.int .i64 u0,.int .i64 0,.int .i64 n1,.int .u64 (G1:Int),.int .i64 u1]) :: (b4,cf c) :: abx (T.eraseIdx ti)) (arw (T.eraseIdx ti)) F) 0 rfl (fun _ => Jbx.bears) (fun bx w' q => hsubJ bx w' q) ?eHs1 (fun w1 hw => (HCl.out w1 hw).mono fun e w' ⟨b,h1,h2⟩ => ⟨b,h1,h2⟩) ?hHs1
       case eHs1 => (intro w hw; go_simp; try (first | (refine ⟨?_,?_⟩ <;> with_reducible rfl) | with_reducible rfl))
       intro bx
       refine tkS 14 rfl (hsubJ bx) ?_ (hC:=Jbx.bears)
       refine zaj (by kernel_rfl) ?_
       clear HB hsubB hsubJ HPt
       intro w_ HJ_
       have HJn:=Lib.hid HJ_
       obtain ⟨Gn,un,L0',L1',hg1,hnl,hi0,hi1,hq0,hq1⟩:=HGx.out
       have HG1:=Lib.hid hg1
       have HNl:=Lib.hid hnl
       have HI0:=Lib.hid hi0
       have HI1:=Lib.hid hi1
       have HQ0:=Lib.hid hq0
       have HQ1:=Lib.hid hq1
       obtain ⟨ok3,KA3,KC3,RA3,RC3,HB3⟩:=HJ_
       have HB:=Lib.hid HB3
       clear HB3 ok3 HCl HOk HGx hg1 hnl hi0 hi1 hq0 hq1 HK0 HK1
       obtain ⟨gq,rfl⟩ : ∃ q,q = gk:=⟨_,rfl⟩
       go_wp2_with (first | ((with_reducible refine zah HB ?_); clear HB; intro w_ HB) | ((with_reducible refine zab ?_); first | refine Kx.l1 HB rfl rfl ?_ | refine Kx.la HB rfl ?_) | ((with_reducible refine zac ?_); first | refine l1g HB rfl rfl rfl ?_ | refine Kx.lag HB rfl rfl ?_))
       go_loopg [14] 2 (fun gh jx wr => ∃ (Gx:Nat) (ux:Int),Hid (Jbx w wr t.g s1 ((bx,mvs y lo) :: (t.ga,a1.cells t.g) :: (b10,o.cells) :: (b7,[.int .i64 0,.int .i64 n0,.int .u64 (G0:Int),.int .i64 u0,.int .i64 0,.int .i64 n1,.int .u64 (Gx:Int),.int .i64 ux]) :: (b4,cf c) :: abx (T.eraseIdx ti)) (arw (T.eraseIdx ti)) F) ∧ ((gh = 2 ∧ jx = .int .i64 0 ∧ Gx = G1 ∧ ux = u1) ∨ (gh = 1 ∧ jx = .int .i64 1 ∧ Gx = Gn ∧ ux = un)))
       case atStart => exact ⟨G1,u1,HJn,.inl ⟨rfl,rfl,rfl,rfl⟩⟩
       case round =>
        clear HB HJn
        obtain ⟨Gx,ux,HJn,hph⟩:=hrel
        rcases hph with ⟨hg1,rfl,rfl,rfl⟩ | ⟨hg1,rfl,rfl,rfl⟩
        ·obtain ⟨ok3,KA3,KC3,RA3,RC3,HB3⟩:=HJn.out
         have HB:=Lib.hid HB3
         have HOk3:=Lib.hid ok3
         clear HB3 ok3 HJn
         go_upto_region 24 with (first | ((with_reducible refine zah HB ?_); clear HB; intro w_ HB) | ((with_reducible refine zab ?_); first | refine Kx.l1 HB rfl rfl ?_ | refine Kx.la HB rfl ?_) | ((with_reducible refine zac ?_); first | refine l1g HB rfl rfl rfl ?_ | refine Kx.lag HB rfl rfl ?_))
         refine zam HB (fun i => i == 11) (by kernel_rfl) ?_
         refine Kx.tk 0 rfl ?_
         refine Kx.tk 1 rfl ?_
         refine Kx.tk 2 rfl ?_
         first | refine xl1 3 rfl rfl rfl ?_ | refine xla 3 rfl rfl ?_ | refine Kx.xlo 3 rfl rfl HC.out ?_
         first | refine xl1 4 rfl rfl rfl ?_ | refine xla 4 rfl rfl ?_ | refine Kx.xlo 4 rfl rfl HC.out ?_
         refine Kx.tk 5 rfl ?_
         refine Kx.tk 6 rfl ?_
         refine Kx.tk 7 rfl ?_
         first | refine xl1 8 rfl rfl rfl ?_ | refine xla 8 rfl rfl ?_ | refine Kx.xlo 8 rfl rfl HC.out ?_
         refine zci (i:=9) (v:=?v9_2) (f:=?g9_2) (args:=?s9_2) (a':=?a9_2) (by first | exact Kx.za8 | exact zcr | assumption) rfl (by kernel_rfl) (by kernel_rfl) (by kernel_rfl) (fun _ _ _ h => h) (by kernel_rfl) ?c9_2 ?w9_2 ?y9_2 ?f9_2 ?r9_2
         case w9_2 => kernel_rfl
         case y9_2 => (intro W hW; go_simp; first | (refine ⟨?_,?_⟩ <;> with_reducible rfl) | with_reducible rfl)
         case c9_2 => (intro W hW; refine Calls.mono (HG1.out W) ?_; rintro e w_ ⟨rfl,hb_⟩; refine ⟨?_,by first | exact hb_ | exact hb_ ▸ Below.refl _ _⟩; with_reducible rfl)
         case f9_2 => (go_simp; try with_reducible rfl)
         refine Kx.tk 10 rfl ?_
         first | (refine zao (i:=11) rfl (by kernel_rfl) (by kernel_rfl) (by rfl) rfl _ _ _ rfl _ rfl _ rfl _ (by rfl) (fun w => (Tryz.sizeOf66 w)) (by rfl) ?_) | (refine zao (i:=11) rfl (by kernel_rfl) (by kernel_rfl) (by rfl) rfl _ _ _ rfl _ rfl _ rfl _ (by rfl) (fun w => (Tryz.sizeOf24 w)) (by rfl) ?_) | (refine zao (i:=11) rfl (by kernel_rfl) (by kernel_rfl) (by rfl) rfl _ _ _ rfl _ rfl _ rfl _ (by rfl) (fun w => (Tryz.sizeOf37 w)) (by rfl) ?_) | (refine zao (i:=11) rfl (by kernel_rfl) (by kernel_rfl) (by rfl) rfl _ _ _ rfl _ rfl _ rfl _ (by rfl) (fun w => (Tryz.sizeOf3 w)) (by rfl) ?_) | (refine zao (i:=11) rfl (by kernel_rfl) (by kernel_rfl) (by rfl) rfl _ _ _ rfl _ rfl _ rfl _ (by rfl) (fun w => (Tryz.sizeOf2 w)) (by rfl) ?_) | (refine zao (i:=11) rfl (by kernel_rfl) (by kernel_rfl) (by rfl) rfl _ _ _ rfl _ rfl _ rfl _ (by rfl) (fun w => (Tryz.sizeOf32 w)) (by rfl) ?_) | (refine zat (i:=11) rfl (by kernel_rfl) (by kernel_rfl) (by rfl) rfl _ _ _ rfl _ rfl _ rfl _ _ (by simp [Kx.splice] <;> rfl) (by simp) (fun w => (Tryz.sizeOf66 w)) (by rfl) ?_) | (refine zat (i:=11) rfl (by kernel_rfl) (by kernel_rfl) (by rfl) rfl _ _ _ rfl _ rfl _ rfl _ _ (by simp [Kx.splice] <;> rfl) (by simp) (fun w => (Tryz.sizeOf24 w)) (by rfl) ?_) | (refine zat (i:=11) rfl (by kernel_rfl) (by kernel_rfl) (by rfl) rfl _ _ _ rfl _ rfl _ rfl _ _ (by simp [Kx.splice] <;> rfl) (by simp) (fun w => (Tryz.sizeOf37 w)) (by rfl) ?_) | (refine zat (i:=11) rfl (by kernel_rfl) (by kernel_rfl) (by rfl) rfl _ _ _ rfl _ rfl _ rfl _ _ (by simp [Kx.splice] <;> rfl) (by simp) (fun w => (Tryz.sizeOf3 w)) (by rfl) ?_) | (refine zat (i:=11) rfl (by kernel_rfl) (by kernel_rfl) (by rfl) rfl _ _ _ rfl _ rfl _ rfl _ _ (by simp [Kx.splice] <;> rfl) (by simp) (fun w => (Tryz.sizeOf2 w)) (by rfl) ?_) | (refine zat (i:=11) rfl (by kernel_rfl) (by kernel_rfl) (by rfl) rfl _ _ _ rfl _ rfl _ rfl _ _ (by simp [Kx.splice] <;> rfl) (by simp) (fun w => (Tryz.sizeOf32 w)) (by rfl) ?_) | (refine zas (i:=11) rfl (by kernel_rfl) (by kernel_rfl) (by rfl) rfl _ _ _ rfl _ rfl rfl _ _ (by simp <;> rfl) (by simp) (fun w => (Tryz.sizeOf66 w)) ?_) | (refine zas (i:=11) rfl (by kernel_rfl) (by kernel_rfl) (by rfl) rfl _ _ _ rfl _ rfl rfl _ _ (by simp <;> rfl) (by simp) (fun w => (Tryz.sizeOf24 w)) ?_) | (refine zas (i:=11) rfl (by kernel_rfl) (by kernel_rfl) (by rfl) rfl _ _ _ rfl _ rfl rfl _ _ (by simp <;> rfl) (by simp) (fun w => (Tryz.sizeOf37 w)) ?_) | (refine zas (i:=11) rfl (by kernel_rfl) (by kernel_rfl) (by rfl) rfl _ _ _ rfl _ rfl rfl _ _ (by simp <;> rfl) (by simp) (fun w => (Tryz.sizeOf3 w)) ?_) | (refine zas (i:=11) rfl (by kernel_rfl) (by kernel_rfl) (by rfl) rfl _ _ _ rfl _ rfl rfl _ _ (by simp <;> rfl) (by simp) (fun w => (Tryz.sizeOf2 w)) ?_) | (refine zas (i:=11) rfl (by kernel_rfl) (by kernel_rfl) (by rfl) rfl _ _ _ rfl _ rfl rfl _ _ (by simp <;> rfl) (by simp) (fun w => (Tryz.sizeOf32 w)) ?_) | (refine zar (i:=11) rfl (by kernel_rfl) (by kernel_rfl) (by rfl) rfl _ _ _ rfl _ rfl _ rfl rfl _ _ (by simp <;> rfl) (by simp) (fun w => (Tryz.sizeOf66 w)) ?_) | (refine zar (i:=11) rfl (by kernel_rfl) (by kernel_rfl) (by rfl) rfl _ _ _ rfl _ rfl _ rfl rfl _ _ (by simp <;> rfl) (by simp) (fun w => (Tryz.sizeOf24 w)) ?_) | (refine zar (i:=11) rfl (by kernel_rfl) (by kernel_rfl) (by rfl) rfl _ _ _ rfl _ rfl _ rfl rfl _ _ (by simp <;> rfl) (by simp) (fun w => (Tryz.sizeOf37 w)) ?_) | (refine zar (i:=11) rfl (by kernel_rfl) (by kernel_rfl) (by rfl) rfl _ _ _ rfl _ rfl _ rfl rfl _ _ (by simp <;> rfl) (by simp) (fun w => (Tryz.sizeOf3 w)) ?_) | (refine zar (i:=11) rfl (by kernel_rfl) (by kernel_rfl) (by rfl) rfl _ _ _ rfl _ rfl _ rfl rfl _ _ (by simp <;> rfl) (by simp) (fun w => (Tryz.sizeOf2 w)) ?_) | (refine zar (i:=11) rfl (by kernel_rfl) (by kernel_rfl) (by rfl) rfl _ _ _ rfl _ rfl _ rfl rfl _ _ (by simp <;> rfl) (by simp) (fun w => (Tryz.sizeOf32 w)) ?_)
         refine zaj (by kernel_rfl) ?_
         clear HB
         intro w_ HB_
         have HB:=Lib.hid HB_
         clear HB_
         go_wp2_with (first | ((with_reducible refine zah HB ?_); clear HB; intro w_ HB) | ((with_reducible refine zab ?_); first | refine Kx.l1 HB rfl rfl ?_ | refine Kx.la HB rfl ?_) | ((with_reducible refine zac ?_); first | refine l1g HB rfl rfl rfl ?_ | refine Kx.lag HB rfl rfl ?_))
         go_roundg 1
         case measure => omega
         case rel => exact ⟨Gn,un,Lib.hid ⟨HOk3.out,_,_,_,_,HB.out⟩,.inr ⟨rfl,rfl,rfl,rfl⟩⟩
        ·obtain ⟨ok3,KA3,KC3,RA3,RC3,HB3⟩:=HJn.out
         obtain ⟨t',e3,e4,e5,e6,hok,HB4⟩:=zia (t:=t) (i:=ti) (T:=T) (l:=[(b10,o.cells),(b7,[.int .i64 0,.int .i64 n0,.int .u64 (G0:Int),.int .i64 u0,.int .i64 0,.int .i64 n1,.int .u64 (Gx:Int),.int .i64 ux]),(b4,cf c)]) (r:=[]) HJn.out.tail HT3.out.2.2.1 HTi.out
         have HAn:Hid (Al F (k * 8200 + 8200) n2 L0' L1' (T.set ti t')):=Lib.hid (HA2.out.put (fun q hq => hq) (Nat.le_add_right ..) HQ0.out HQ1.out ⟨rs',by rw [e5,e6]; exact HNb.out,by rw [e5,e6]; exact HNl.out⟩)
         have HTn:Hid ((T.set ti t').length = 3 ∧ ptrs (T.set ti t') = P3 ∧ (∀ t ∈ T.set ti t',Jm.Ok t.s) ∧ (some ad5,P3) ∈ F):=Lib.hid ⟨by rw [List.length_set]; exact HT3.out.1,by rw [zf0 HTi.out e3]; exact HT3.out.2.1,hok,HT3.out.2.2.2⟩
         clear HB3 e3 e4 e5 e6 hok HJn HNb HNl
         have HB:Hid (Bxs w wr ((b10,o.cells) :: (b7,[.int .i64 0,.int .i64 n0,.int .u64 (G0:Int),.int .i64 u0,.int .i64 0,.int .i64 n1,.int .u64 (Gx:Int),.int .i64 ux]) :: (b4,cf c) :: abx (T.set ti t')) (arw (T.set ti t')) F):=Lib.hid HB4
         clear HB4
         go_wp2_with (first | ((with_reducible refine zah HB ?_); clear HB; intro w_ HB) | ((with_reducible refine zab ?_); first | refine Kx.l1 HB rfl rfl ?_ | refine Kx.la HB rfl ?_) | ((with_reducible refine zac ?_); first | refine l1g HB rfl rfl rfl ?_ | refine Kx.lag HB rfl rfl ?_))
         go_meet
         case rel => exact ⟨T.set ti t',F,n0,u0,n1,ux,G0,Gx,L0',L1',HTn,HAn,HI0,HI1,HB⟩
   case rest =>
   clear HB HT3 HA2 HK0 HK1
   obtain ⟨T',F',n0',u0',n1',u1',G0',G1',L0',L1',HT3,HA2,HK0,HK1,HB⟩:=hcut
   have HV0:Hid (∀ W,Calls Tryz.prog 25 #[.agg (⟨0,n0',(G0':Int),u0'⟩ : Ho).cells.toArray,.int .i64 0,.int .i64 n2] W fun en w' => en = .returned (.bool (decide (n2 < u0'))) ∧ Below W.heap.size W w'):=Lib.hid (fun W => by
    have:=zfi ⟨0,n0',(G0':Int),u0'⟩ 0 n2 W
    rwa [zkt] at this)
   have HV1:Hid (∀ W,Calls Tryz.prog 25 #[.agg (⟨0,n1',(G1':Int),u1'⟩ : Ho).cells.toArray,.int .i64 0,.int .i64 n2] W fun en w' => en = .returned (.bool (decide (n2 < u1'))) ∧ Below W.heap.size W w'):=Lib.hid (fun W => by
    have:=zfi ⟨0,n1',(G1':Int),u1'⟩ 0 n2 W
    rwa [zkt] at this)
   have hone:=hold_one HK0.out HK1.out hn20.1 (fun i hi => by
    obtain ⟨t,ht⟩ : ∃ t,T'[i]? = some t:=⟨T'[i]'(by rw [HT3.out.1]; exact hi),List.getElem?_eq_getElem _⟩
    obtain ⟨rs,-,k2⟩:=HA2.out i t ht
    rcases k2.le with q | q
    ·exact q
    ·omega)
   obtain ⟨p0,hp0⟩ : ∃ p,decide (n2 < u0') = p:=⟨_,rfl⟩
   obtain ⟨p1,hp1⟩ : ∃ p,decide (n2 < u1') = p:=⟨_,rfl⟩
   rw [hp0] at HV0 hone
   rw [hp1] at HV1 hone
   have HA3:Hid (Al F' ((k + 1) * 8200) n2 L0' L1' T'):=Lib.hid (by rw [show (k + 1) * 8200 = k * 8200 + 8200 by omega]; exact HA2.out)
   clear hp0 hp1 HA2 HPc hk01 hti3
   cases p0 with
   | false =>
     go_wp2_with (first | (go_at_call 25; fail) | (first | ((with_reducible refine zah HB ?_); clear HB; intro w_ HB) | ((with_reducible refine zab ?_); first | refine Kx.l1 HB rfl rfl ?_ | refine Kx.la HB rfl ?_) | ((with_reducible refine zac ?_); first | refine l1g HB rfl rfl rfl ?_ | refine Kx.lag HB rfl rfl ?_)))
     refine Calls.mono (HV0.out _) ?_
     rintro e w_ ⟨rfl,hb_⟩
     replace HB:=Lib.hid (HB.out.call hb_)
     clear hb_
     go_wp2_with (first | ((with_reducible refine zah HB ?_); clear HB; intro w_ HB) | ((with_reducible refine zab ?_); first | refine Kx.l1 HB rfl rfl ?_ | refine Kx.la HB rfl ?_) | ((with_reducible refine zac ?_); first | refine l1g HB rfl rfl rfl ?_ | refine Kx.lag HB rfl rfl ?_))
     go_roundg (gk - 1)
     case measure => omega
     case rel => exact ⟨k + 1,T',F',n2,n0',u0',n1',u1',G0',G1',L0',L1',by omega,rfl,by go_num,hn20.1,by omega,HT3,HA3,HK0,HK1,Lib.hid HB.out.tail⟩
   | true =>
     have hp1:p1 = false:=by rcases hone with q | q; (· cases q); (· exact q)
     subst hp1
     go_wp2_with (first | (go_at_call 25; fail) | (first | ((with_reducible refine zah HB ?_); clear HB; intro w_ HB) | ((with_reducible refine zab ?_); first | refine Kx.l1 HB rfl rfl ?_ | refine Kx.la HB rfl ?_) | ((with_reducible refine zac ?_); first | refine l1g HB rfl rfl rfl ?_ | refine Kx.lag HB rfl rfl ?_)))
     refine Calls.mono (HV0.out _) ?_
     rintro e w_ ⟨rfl,hb_⟩
     replace HB:=Lib.hid (HB.out.call hb_)
     clear hb_
     go_wp2_with (first | (go_at_call 25; fail) | (first | ((with_reducible refine zah HB ?_); clear HB; intro w_ HB) | ((with_reducible refine zab ?_); first | refine Kx.l1 HB rfl rfl ?_ | refine Kx.la HB rfl ?_) | ((with_reducible refine zac ?_); first | refine l1g HB rfl rfl rfl ?_ | refine Kx.lag HB rfl rfl ?_)))
     refine Calls.mono (HV1.out _) ?_
     rintro e w_ ⟨rfl,hb_⟩
     replace HB:=Lib.hid (HB.out.call hb_)
     clear hb_
     go_wp2_with (first | ((with_reducible refine zah HB ?_); clear HB; intro w_ HB) | ((with_reducible refine zab ?_); first | refine Kx.l1 HB rfl rfl ?_ | refine Kx.la HB rfl ?_) | ((with_reducible refine zac ?_); first | refine l1g HB rfl rfl rfl ?_ | refine Kx.lag HB rfl rfl ?_))
     go_roundg (gk - 1)
     case measure => omega
     case rel => exact ⟨k + 1,T',F',n2,n0',u0',n1',u1',G0',G1',L0',L1',by omega,rfl,by go_num,hn20.1,by omega,HT3,HA3,HK0,HK1,Lib.hid HB.out.tail⟩
end Go.Proofs.YtponpgcpmlcdpaaGreatDoor
