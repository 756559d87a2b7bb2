import Derived.Test.YtponpgcpmlcdpaaGreatDoorPxx
import Derived.Test.YtponpgcpmlcdpaaGreatDoorRn
import Derived.Test.YtponpgcpmlcdpaaGreatDoorAo
import Derived.Test.YtponpgcpmlcdpaaGreatDoorOhz
import Derived.Test.YtponpgcpmlcdpaaGreatDoorPs
import Derived.Test.YtponpgcpmlcdpaaGreatDoorAhx
namespace Go.Proofs.YtponpgcpmlcdpaaGreatDoor
open Go.RowKit Go.Shelf Km Kx Kc Kt
set_option linter.unusedVariables false
set_option linter.unusedSimpArgs false
instance instU8:Kx.OneC Tryz.prog 5:=⟨Tryz.isAgg5⟩
instance instAcc:Kx.OneC Tryz.prog 27:=⟨Tryz.isAgg27⟩
instance instProps:Kx.AggC Tryz.prog 56 60:=⟨Tryz.isAgg56,Tryz.sizeOf56⟩
def pp2 (p q:Pp):List Value:=p.cells++q.cells
instance instPropsZ:Kx.ZAgg Tryz.prog 56 (pp2 Pp.zero Pp.zero):=⟨Tryz.zeroValue56⟩
instance instRn:Kx.AggC Tryz.prog 59 4:=⟨Tryz.isAgg59,Tryz.sizeOf59⟩
instance instRnZ:Kx.ZAgg Tryz.prog 59 Rn.zero.cells:=⟨Tryz.zeroValue59⟩
@[simp] theorem Rn.len' (o:Rn):o.cells.length=4:=rfl
@[simp] theorem pp2_len (p q:Pp):(pp2 p q).length=60:=rfl
@[simp] theorem pp2_t30 (p q:Pp):(pp2 p q).take 30=p.cells:=rfl
@[simp] theorem pp2_d30 (p q:Pp):(pp2 p q).drop 30=q.cells:=rfl
@[simp] theorem pp2_q (p q:Pp):(q.cells).take 30=q.cells:=rfl
@[simp] theorem pp2_d60 (p q:Pp):(pp2 p q).drop 60=[]:=rfl
@[simp] theorem pp2_v0 (p q:Pp):((pp2 p q).drop 16).take 12=p.val.cells:=rfl
@[simp] theorem pp2_v1 (p q:Pp):((pp2 p q).drop 46).take 12=q.val.cells:=rfl
theorem zmo {p q:Pp} {x:Nat} {v:Value} (h:p.val.cells[x]? = some v):(pp2 p q)[16+x]? = some v:=by
 rw [←pp2_v0 p q,List.getElem?_take,List.getElem?_drop] at h
 split at h
 ·exact h
 ·cases h
theorem zmn {p q:Pp} {x:Nat} {v:Value} (h:q.val.cells[x]? = some v):(pp2 p q)[46+x]? = some v:=by
 rw [←pp2_v1 p q,List.getElem?_take,List.getElem?_drop] at h
 split at h
 ·exact h
 ·cases h
theorem zc2 {P : Program} {w : World} {f : Operand → Value} {d : Option Tmp} {ty t2 : TypeId} {x : Operand} {pos : String} {af : Array Edge} {g : Option (Nat × Bool)} (ad : Addr) (hx : f x = .pointer (some ad)) (cs : List Value)
  (hA:(isAgg ty).run P w = .ok true w) (hi:(P.info? ty).map (·.size)=some cs.length) (hc:∀j v,cs[j]? = some v→w.cell? (ad.add j)=some v):(execOp f (Oper.mk d (.load ty x) t2 pos af g)).run P w = .ok (.value (.agg cs.toArray)) w:=by
 have hl:(loadCells ad cs.length).run P w = .ok cs.toArray w:=run_loadCells_list (P:=P) w ad cs hc
 have hv:(loadVar ty ad).run P w = .ok (.agg cs.toArray) w:=by
  cases hq:P.info? ty with
  |none=>simp [hq] at hi
  | some i =>
    have hs:i.size=cs.length:=by simpa [hq] using hi
    simp [loadVar,Sem.run_bind,hA,sizeOf,typeInfo,hq,hs,hl]
 unfold execOp
 simp only [hx,Instr.loadAt,Instr.sureAddr,Sem.run_bind,Sem.run_pure,Result.andThen_ok,hv]
theorem addrAt (b o x:Nat):Addr.add ⟨b,o,none⟩ x=⟨b,o+x,none⟩:=by
 unfold Addr.add
 split
 ·rename_i h;subst h;rfl
 ·rfl
theorem zpi (b x:Nat):Addr.add ⟨b,0,none⟩ x=⟨b,x,none⟩:=by rw [addrAt,Nat.zero_add]
theorem zqk (A:Option Addr) (f:Int) (hf:0≤f∧f≤3):zfa { zc8 A 50 1000 20 40 5 with f:=f } [1,0]:=by
 have h:=zqj A
 cases h
 constructor<;>first|exact hf|assumption
def om (k f t b:Int) (z:Pt):Mm.Ms:=pm k f t 1 b z.x
theorem zhq (k f t b:Int) (z:Pt):Tryz.prog.built 37 [(0,.int .i64 k),(1,.int .i64 f),(2,.int .i64 t),(3,.int .i64 1),(4,.int .i64 b),(10,.bool true),(11,.agg z.cells.toArray)]=some (mvs (om k f t b z) (loOf z)).toArray:=by kernel_rfl
def ownQ (k pc:Int) (A:Option Addr):Pq:=⟨0,k,-1,-1,pc,0,0,0,0,0,⟨A,2,2,[0,0]⟩,Ks.Sl.nil⟩
theorem zk9 (k pc:Int) (A:Option Addr):Tryz.prog.built 34 [(1,.int .i64 k),(2,.int .i64 (-1)),(3,.int .i64 (-1)),(4,.int .i64 pc),(10,.slice A 2 2)]=some (ownQ k pc A).cells.toArray:=by kernel_rfl
theorem own_ok (k pc:Int) (A:Option Addr) (F:Fz) (hk:0≤k∧k≤1) (hp:0≤pc∧pc≤99):PqOk ((A,i64s [0,0])::F) { ownQ k pc A with e:=1 }:=by
 refine ⟨⟨⟨?_,?_,?_,?_,?_,I0,I0,I0,U0,U0,(fun v hv => ?_),(fun v hv=>by cases hv)⟩,rfl,Nat.le_refl _,by show 2≤maxLen;unfold maxLen;omega,rfl,Nat.le_refl _,Nat.zero_le _⟩,fun x hx => ?_,by show 2≤9000000;omega,by show 0≤9000000;omega⟩
 ·show Pm.I 1;exact ⟨by decide,by decide⟩
 ·show Pm.I k;exact ⟨by omega,by omega⟩
 ·show Pm.I (-1);exact ⟨by decide,by decide⟩
 ·show Pm.I (-1);exact ⟨by decide,by decide⟩
 ·show Pm.I pc;exact ⟨by omega,by omega⟩
 ·have hv2:v∈[(0:Int),0]:=hv
  simp only [List.mem_cons,List.not_mem_nil,or_false,or_self] at hv2
  rw [hv2]
  exact ⟨by decide,by decide⟩
 ·rcases List.mem_cons.1 hx with rfl|hx
  ·exact .inr (List.mem_cons_self ..)
  ·rcases List.mem_cons.1 hx with rfl|hx
   ·exact .inl rfl
   ·cases hx
set_option maxRecDepth 100000 in
set_option maxHeartbeats 8000000 in
theorem zqi (a0 : Int) (A : Option Addr) (len cap : Nat) (os : List Rn) (w : World) (w0 : (Lit.int .u8 a0).wf = true) (w1 : os.length = len ∧ len ≤ cap ∧ cap ≤ maxLen ∧ (∀ p ∈ os, p.At w w.heap.size) ∧ Rd w w.heap.size A (cat Rn.cells os)) (ht : Tbs w) :
  Calls Tryz.prog 4 #[.int .u8 a0,.slice A len cap] w fun e w'=>e = .returned (.bool true)∧Below w.heap.size w w':=by
 obtain ⟨hlen,-,-,hat,hrd⟩:=w1
 have u0:0≤a0∧a0≤255:=by simpa [Lit.wf,IntKind.min,IntKind.max,IntKind.signed,IntKind.bits] using w0
 have HB:=Lib.hid (Bxs.start w)
 have HAt:=Lib.hid hat
 have HRd:=Lib.hid hrd
 have HLen:=Lib.hid hlen
 have HT:=Lib.hid ht
 have hio:(Tryz.prog.info? 59).map (·.size)=some 4:=by kernel_rfl
 obtain ⟨f,ef⟩ : ∃f:Nat,a0 % 3=(f:Int):=⟨(a0 % 3).toNat,by omega⟩
 have hf2:f≤2:=by omega
 have f0:a0.tmod 3=(f:Int):=by rw [Int.tmod_eq_emod_of_nonneg u0.1];exact ef
 have k0:IntKind.u8.wrap (f:Int)=(f:Int):=by rw [IntKind.wrap_u8];omega
 have g0:IntKind.i64.wrap (f:Int)=(f:Int):=by rw [IntKind.wrap_i64];omega
 clear hat hrd hlen ht w0 u0 ef
 go_enter Tryz.func4,Tryz.ntmps4
 go_wp2_with (first|(go_at_call 15;refine Calls.mono (zqn _) ?_;rintro e w_ ⟨rfl,hb_⟩;replace HB:=Lib.hid (HB.out.call hb_);clear hb_)|(go_at_call 16;fail))
 refine (zl7 _).mono ?_
 rintro e w1 ⟨Ap,rfl,hb_,hn_⟩
 replace HB:=Lib.hid (HB.out.zh1 hb_ hn_ (fun _ q=>by cases q))
 clear hb_ hn_
 go_upto_region 3 with (first|((with_reducible refine zah HB ?_);clear HB;intro w_ HB)|((with_reducible refine zae (d:=some 6) ?_);(first|refine boxa HB rfl ?_|refine boxt HB rfl rfl ?_|refine box1 HB rfl rfl ?_);clear HB;intro b6 w_ HB;refine Kx.fr ?_)|((with_reducible refine zaa (d:=some 6) ?_);(first|refine ala HB ?_|refine al1 HB ?_);clear HB;intro b6 w_ HB;refine Kx.fr ?_)|((with_reducible refine zae ?_);(first|refine boxa HB rfl ?_|refine boxt HB rfl rfl ?_|refine box1 HB rfl rfl ?_);clear HB;intro b_ w_ HB;refine Kx.fr ?_)|((with_reducible refine zaa ?_);(first|refine ala HB ?_|refine al1 HB ?_);clear HB;intro b_ w_ HB;refine Kx.fr ?_)|((with_reducible refine zab ?_);first|refine Kx.l1 HB rfl rfl ?_|refine Kx.la HB rfl ?_|refine Kx.lo HB rfl HC.out ?_)|((with_reducible refine zac ?_);first|refine l1g HB rfl rfl rfl ?_|refine Kx.lag HB rfl rfl ?_|refine Kx.log HB rfl HC.out rfl ?_)|((with_reducible refine zad ?_);(first|refine stwa HB rfl rfl ?_|refine sta HB rfl rfl ?_|refine Kx.stc HB rfl rfl ?_|refine Kx.stt HB rfl rfl rfl ?_|refine Kx.st1 HB rfl rfl rfl ?_);clear HB;intro w_ HB))
 simp only [cf,zc8] at HB
 obtain ⟨c,hcE⟩ : ∃c:Cf,c={ zc8 Ap 50 1000 20 40 5 with f:=(f:Int) }:=⟨_,rfl⟩
 have HC:Hid (zfa c [1,0]∧c.targets=((2:Nat):Int)∧c.ta=Ap∧c.tn=2∧c.l=20∧c.m=5∧Fc c=f):=Lib.hid (by
  rw [hcE]
  refine ⟨zqk Ap f ⟨by omega,by omega⟩,rfl,rfl,rfl,rfl,rfl,?_⟩
  have h:((Fc { zc8 Ap 50 1000 20 40 5 with f:=(f:Int) }:Nat):Int)=(f:Int):=Fc_at (by show (0:Int)≤(f:Int);omega) (by show (f:Int)≤3;omega)
  exact_mod_cast h)
 have HCC:Hid (cf c=(.int .i64 (f:Int))::(cf (zc8 Ap 50 1000 20 40 5)).tail):=Lib.hid (by rw [hcE];rfl)
 have HCf:Hid (c.f=(f:Int)):=Lib.hid (by rw [hcE])
 clear hcE
 go_upto_region 4 with (first|((with_reducible refine zah HB ?_);clear HB;intro w_ HB)|((with_reducible refine zae ?_);(first|refine boxa HB rfl ?_|refine boxt HB rfl rfl ?_|refine box1 HB rfl rfl ?_);clear HB;intro b_ w_ HB;refine Kx.fr ?_)|((with_reducible refine zaa ?_);(first|refine ala HB ?_|refine al1 HB ?_);clear HB;intro b_ w_ HB;refine Kx.fr ?_)|((with_reducible refine zab ?_);first|refine Kx.l1 HB rfl rfl ?_|refine Kx.la HB rfl ?_|refine Kx.lo HB rfl HC.out ?_)|((with_reducible refine zac ?_);first|refine l1g HB rfl rfl rfl ?_|refine Kx.lag HB rfl rfl ?_|refine Kx.log HB rfl HC.out rfl ?_)|((with_reducible refine zad ?_);(first|refine stwa HB rfl rfl ?_|refine sta HB rfl rfl ?_|refine Kx.stc HB rfl rfl ?_|refine Kx.stt HB rfl rfl rfl ?_|refine Kx.st1 HB rfl rfl rfl ?_);clear HB;intro w_ HB))
 have HB2:Hid (Bxs w w_ [(b6,cf c)] [] [(Ap,i64s [1,0])]):=by rw [HCC.out];exact HB
 clear HB
 have HB:=HB2
 clear HB2
 by_cases hgr:300 < (len:Int)
 ·have d0:decide (300 < (len:Int))=true:=decide_eq_true hgr
  clear hgr HAt HRd HLen HT
  go_wp2_with (first|((with_reducible refine zah HB ?_);clear HB;intro w_ HB)|((with_reducible refine zae ?_);(first|refine boxa HB rfl ?_|refine boxt HB rfl rfl ?_|refine box1 HB rfl rfl ?_);clear HB;intro b_ w_ HB;refine Kx.fr ?_)|((with_reducible refine zaa ?_);(first|refine ala HB ?_|refine al1 HB ?_);clear HB;intro b_ w_ HB;refine Kx.fr ?_)|((with_reducible refine zab ?_);first|refine Kx.l1 HB rfl rfl ?_|refine Kx.la HB rfl ?_|refine Kx.lo HB rfl HC.out ?_)|((with_reducible refine zac ?_);first|refine l1g HB rfl rfl rfl ?_|refine Kx.lag HB rfl rfl ?_|refine Kx.log HB rfl HC.out rfl ?_)|((with_reducible refine zad ?_);(first|refine stwa HB rfl rfl ?_|refine sta HB rfl rfl ?_|refine Kx.stc HB rfl rfl ?_|refine Kx.stt HB rfl rfl rfl ?_|refine Kx.st1 HB rfl rfl rfl ?_);clear HB;intro w_ HB))
  go_ret
  exact ⟨rfl,HB.out.below⟩
 have hle:len≤300:=by omega
 have d0:decide (300 < (len:Int))=false:=decide_eq_false hgr
 clear hgr
 have HNw : Hid (∀ (k : Nat) (W : World) (L : List (Nat × List Value)) (r' : List Rw) (F : Fz), k ≤ 255 → Within [(Ap, i64s [1, 0])] F → Bxs w W L r' F → Calls Tryz.prog 7 #[.agg (cf c).toArray, .int .i64 (k : Int)] W fun e w' => ∃ (y : Nat × Nat × Option Addr × Nat × Pt), e = .returned (.pointer (some ⟨y.1, 0, none⟩)) ∧
   Jbx w w' y.2.1 Jm.new ((y.1,(newA { c with ta:=y.2.2.1,tn:=c.tn,tc:=y.2.2.2.1 } (k:Int) y.2.2.2.2).cells y.2.1)::L) r' ((y.2.2.2.2.A,i64s y.2.2.2.2.x.pen)::(y.2.2.1,i64s [1,0])::F)∧y.2.2.2.2.x=zp 2∧y.2.2.2.2.Fine):=Lib.hid (fun k W L r' F hk hF q=>New_y q c [1,0] (k:Int) 2 (by rw [HC.out.2.2.1];exact hF) (by rw [HC.out.2.2.2.1];rfl) ⟨HC.out.1,Int.natCast_nonneg _,by omega⟩ HC.out.2.1)
 go_wp2_with (first|(go_at_call 7;fail)|(first|((with_reducible refine zah HB ?_);clear HB;intro w_ HB)|((with_reducible refine zae ?_);(first|refine boxa HB rfl ?_|refine boxt HB rfl rfl ?_|refine box1 HB rfl rfl ?_);clear HB;intro b_ w_ HB;refine Kx.fr ?_)|((with_reducible refine zaa ?_);(first|refine ala HB ?_|refine al1 HB ?_);clear HB;intro b_ w_ HB;refine Kx.fr ?_)|((with_reducible refine zab ?_);first|refine Kx.l1 HB rfl rfl ?_|refine Kx.la HB rfl ?_|refine Kx.lo HB rfl HC.out ?_)|((with_reducible refine zac ?_);first|refine l1g HB rfl rfl rfl ?_|refine Kx.lag HB rfl rfl ?_|refine Kx.log HB rfl HC.out rfl ?_)|((with_reducible refine zad ?_);(first|refine stwa HB rfl rfl ?_|refine sta HB rfl rfl ?_|refine Kx.stc HB rfl rfl ?_|refine Kx.stt HB rfl rfl rfl ?_|refine Kx.st1 HB rfl rfl rfl ?_);clear HB;intro w_ HB)))
 refine (HNw.out 0 _ _ _ _ (by decide) (fun q hq => .inr hq) HB.out).mono ?_
 rintro e w2 ⟨⟨ga,g,A2,c2,p⟩,rfl,HJ,hx,hf⟩
 dsimp only at HJ hx hf
 obtain ⟨ok,KA,KC,RA,RC,HB2⟩:=HJ
 clear HB
 have HB:=Lib.hid HB2.tail.tail.zev.zev
 clear HB2 hx hf ok
 have w2f:IntKind.i64.wrap (2 * c.f)=2 * c.f:=by rw [HCf.out,IntKind.wrap_i64];omega
 obtain ⟨n,hn⟩ : ∃n,n=2 * f+1:=⟨_,rfl⟩
 have hn5:1≤n∧n≤5:=by omega
 have HN:=Lib.hid hn
 clear hn
 go_wp2_with (first|((with_reducible refine zah HB ?_);clear HB;intro w_ HB)|((with_reducible refine zae ?_);(first|refine boxa HB rfl ?_|refine boxt HB rfl rfl ?_|refine box1 HB rfl rfl ?_);clear HB;intro b_ w_ HB;refine Kx.fr ?_)|((with_reducible refine zaa ?_);(first|refine ala HB ?_|refine al1 HB ?_);clear HB;intro b_ w_ HB;refine Kx.fr ?_)|((with_reducible refine zab ?_);first|refine Kx.l1 HB rfl rfl ?_|refine Kx.la HB rfl ?_|refine Kx.lo HB rfl HC.out ?_)|((with_reducible refine zac ?_);first|refine l1g HB rfl rfl rfl ?_|refine Kx.lag HB rfl rfl ?_|refine Kx.log HB rfl HC.out rfl ?_)|((with_reducible refine zad ?_);(first|refine stwa HB rfl rfl ?_|refine sta HB rfl rfl ?_|refine Kx.stc HB rfl rfl ?_|refine Kx.stt HB rfl rfl rfl ?_|refine Kx.st1 HB rfl rfl rfl ?_);clear HB;intro w_ HB))
 replace HB:=Lib.hid (HB.out.zn0 27 1)
 go_loopg [7,8] n (fun gh ax ix wr=>∃(k:Nat) (A5:Option Addr) (c5:Nat) (T:List A1) (F:Fz),gh+k=n∧ax = .slice A5 k c5∧ix = .int .i64 (k:Int)∧Hid (T.length=k)∧Hid (∀t∈T,Jm.Ok t.s)∧Hid (∀i t,T[i]? = some t→Ax F i 0 (fun _=>none) (fun _=>False) 0 [] t.a t.s)∧Hid (Within [(Ap,i64s [1,0])] F)∧Hid (Bxs w wr ((b6,cf c)::abx T) (⟨A5,c5,27,1,k,ptrs T⟩::arw T) F))
 case atStart=>exact ⟨0,none,0,[],_,by omega,rfl,rfl,Lib.hid rfl,Lib.hid (fun t ht=>by cases ht),Lib.hid (fun i t hi=>by cases hi),Lib.hid (fun q hq => .inr (List.mem_cons_of_mem _ (List.mem_cons_of_mem _ hq))),HB⟩
 case round =>
  clear HB
  obtain ⟨k,A5,c5,T,F,hk,rfl,rfl,HTl,HOk,HAl,HWi,HB⟩:=hrel
  by_cases hlt:k < n
  case pos =>
   have d1:decide ((k:Int)≤2 * c.f)=true:=decide_eq_true (by rw [HCf.out];have:=HN.out;omega)
   go_wp2_with (first|(go_at_call 7;fail)|(first|((with_reducible refine zah HB ?_);clear HB;intro w_ HB)|((with_reducible refine zab ?_);first|refine Kx.l1 HB rfl rfl ?_|refine Kx.la HB rfl ?_)|((with_reducible refine zac ?_);first|refine l1g HB rfl rfl rfl ?_|refine Kx.lag HB rfl rfl ?_)))
   refine (HNw.out k _ _ _ _ (by omega) HWi.out HB.out).mono ?_
   rintro e w2 ⟨⟨ga,g,A2,c2,p⟩,rfl,HJ,hx,hf⟩
   dsimp only at HJ hx hf
   obtain ⟨t',e1,e2,e3,hok,HB2⟩:=acs_more (l:=[(b6,cf c)]) (r:=[⟨A5,c5,27,1,k,ptrs T⟩]) HJ HOk.out
   rw [←e1]
   clear HB HJ
   have HB:Hid (Bxs w w2 ((b6,cf c)::abx (T++[t'])) (⟨A5,c5,27,1,k,ptrs T⟩::arw (T++[t'])) ((p.A,i64s p.x.pen)::(A2,i64s [1,0])::F)):=Lib.hid HB2
   have HOk2:=Lib.hid hok
   have HTl2:Hid ((T++[t']).length=k+1):=Lib.hid (by rw [List.length_append,HTl.out];rfl)
   have HPt:Hid (ptrs (T++[t'])=ptrs T++[.pointer (some ⟨t'.ga,0,none⟩)]):=Lib.hid (by unfold ptrs;rw [List.map_append];rfl)
   have HAl2:Hid (∀i t,(T++[t'])[i]? = some t→Ax ((p.A,i64s p.x.pen)::(A2,i64s [1,0])::F) i 0 (fun _=>none) (fun _=>False) 0 [] t.a t.s):=Lib.hid (fun i t hi=>by
    by_cases hik:i < k
    ·rw [List.getElem?_append_left (by rw [HTl.out];exact hik)] at hi
     exact (HAl.out i t hi).wide (fun q hq=>List.mem_cons_of_mem _ (List.mem_cons_of_mem _ hq)) (Nat.le_refl _) (fun _ _ z=>z)
    ·rw [List.getElem?_append_right (by rw [HTl.out];omega),HTl.out] at hi
     have hi0:i - k=0:=by
      rcases Nat.eq_zero_or_pos (i - k) with q|q
      ·exact q
      ·rw [List.getElem?_eq_none (by show 1≤i - k;exact q)] at hi;cases hi
     rw [hi0] at hi
     cases hi
     have hik2:i=k:=by omega
     subst hik2
     have hup:JUp (zp 2) t'.s [] t'.a:=by rw [e2,e3];exact JUp.new (by rw [zqu,hx])
     refine ⟨⟨?_,.inl hup,?_,?_,?_,?_,?_,?_,?_⟩,by rw [e3];exact live_new,hup,Acp.ini _,rfl⟩
     ·rw [e2];exact ⟨⟨hf,zpo hx (List.mem_cons_self ..),by show p.x.right=true;rw [hx];exact znm (N:=2) (by decide) ⟨by decide,by decide⟩ ⟨by decide,by decide⟩⟩,.inl rfl,I0,I0,rfl,by show 0≤c.l∧c.l≤1048576;rw [HC.out.2.2.2.2.1];exact ⟨by decide,by decide⟩,by show 0≤c.m∧c.m≤1048576;rw [HC.out.2.2.2.2.2.1];exact ⟨by decide,by decide⟩⟩
     ·rw [e3];exact Nat.le_refl _
     ·rw [e2];exact HC.out.2.2.2.2.1
     ·rw [e2];exact HC.out.2.2.2.2.2.1
     ·rw [e2];exact HC.out.2.1
     ·rw [e2];exact HC.out.1.re
     ·rw [e2];exact HC.out.2.2.2.1.symm
     ·rw [e2];exact List.mem_cons_of_mem _ (List.mem_cons_self ..))
   have HWi2:Hid (Within [(Ap,i64s [1,0])] ((p.A,i64s p.x.pen)::(A2,i64s [1,0])::F)):=Lib.hid (fun q hq=>(HWi.out q hq).imp id (fun h=>List.mem_cons_of_mem _ (List.mem_cons_of_mem _ h)))
   clear HB2 hx hf e1 e2 e3 hok HAl HWi HOk HTl
   go_wp2_with (first|(at_builtin;first|(refine Kx.zd7 HB rfl _ _ 52 rfl _ _ _ rfl 8 27 1 _ rfl Tryz.underlying52 (by kernel_rfl) (by decide) _ _ _ rfl _ ([Value.pointer (some ⟨t'.ga,0,none⟩)]) (HB.out.rd) (by (first|rfl|(intro u hu;rw [List.mem_singleton] at hu;subst hu;rfl)|(unfold maxLen;omega)|omega)) (by (first|rfl|(intro u hu;rw [List.mem_singleton] at hu;subst hu;rfl)|(unfold maxLen;omega)|omega)) (by (first|rfl|(intro u hu;rw [List.mem_singleton] at hu;subst hu;rfl)|(unfold maxLen;omega)|omega)) (by (first|rfl|(intro u hu;rw [List.mem_singleton] at hu;subst hu;rfl)|(unfold maxLen;omega)|omega)) ?_;clear HB;intro A_ c_ w_ hl_ hm_ HB;refine Kx.framed ?_ (by simp only [Act.put,List.setIfInBounds_toArray,List.set_cons_succ,List.set_cons_zero]<;>rfl))|(refine Kx.zdw HB rfl _ _ 52 rfl rfl 8 27 1 Tryz.underlying52 (by kernel_rfl) (by decide) _ _ _ rfl _ ([Value.pointer (some ⟨t'.ga,0,none⟩)]) (HB.out.rd) (by (first|rfl|(intro u hu;rw [List.mem_singleton] at hu;subst hu;rfl)|(unfold maxLen;omega)|omega)) (by (first|rfl|(intro u hu;rw [List.mem_singleton] at hu;subst hu;rfl)|(unfold maxLen;omega)|omega)) (by (first|rfl|(intro u hu;rw [List.mem_singleton] at hu;subst hu;rfl)|(unfold maxLen;omega)|omega)) (by (first|rfl|(intro u hu;rw [List.mem_singleton] at hu;subst hu;rfl)|(unfold maxLen;omega)|omega)) ?_;clear HB;intro A_ c_ w_ hl_ hm_ HB;refine Kx.framed ?_ (by simp only [Act.put,List.setIfInBounds_toArray,List.set_cons_succ,List.set_cons_zero]<;>rfl)))|(first|((with_reducible refine zah HB ?_);clear HB;intro w_ HB)|((with_reducible refine zab ?_);first|refine Kx.l1 HB rfl rfl ?_|refine Kx.la HB rfl ?_)|((with_reducible refine zac ?_);first|refine l1g HB rfl rfl rfl ?_|refine Kx.lag HB rfl rfl ?_)))
   go_roundg (gk - 1)
   case measure=>omega
   case rel=>exact ⟨k+1,_,_,T++[t'],_,by omega,rfl,by go_num,HTl2,HOk2,HAl2,HWi2,by rw [HPt.out];exact Lib.hid HB.out.tail⟩
  obtain rfl:k=n:=by omega
  have d1:decide ((k:Int)≤2 * c.f)=false:=decide_eq_false (by rw [HCf.out];have:=HN.out;omega)
  obtain ⟨P3,hP3⟩ : ∃P3,P3=ptrs T:=⟨_,rfl⟩
  have hrow:=HB.out.rowRd (A:=A5)
  obtain ⟨ad5,hA5⟩ : ∃ad5,A5=some ad5:=by
   obtain ⟨t0,ht0⟩ : ∃t0,T[0]? = some t0:=⟨T[0]'(by rw [HTl.out];omega),List.getElem?_eq_getElem _⟩
   obtain ⟨ad,e,-⟩:=hrow 0 (A1.ptr t0) (by show (ptrs T)[0]? = _;unfold ptrs;rw [List.getElem?_map,ht0];rfl)
   exact ⟨ad,e⟩
  subst hA5
  clear hrow
  rw [←hP3] at HB
  have HB2:Hid (Bxs w wr ((b6,cf c)::abx T) (arw T) ((some ad5,P3)::F)):=Lib.hid HB.out.freeze
  clear HB
  have HB:=HB2
  clear HB2 HNw
  go_wp2_with (first|(go_at_call 17;fail)|(first|((with_reducible refine zah HB ?_);clear HB;intro w_ HB)|((with_reducible refine zab ?_);first|refine Kx.l1 HB rfl rfl ?_|refine Kx.la HB rfl ?_)|((with_reducible refine zac ?_);first|refine l1g HB rfl rfl rfl ?_|refine Kx.lag HB rfl rfl ?_)))
  refine (RZero_x HB.out c [1,0] 2 (fun q hq=>(HWi.out q (by rw [HC.out.2.2.1] at hq;exact hq)).imp id (fun h=>List.mem_cons_of_mem _ h)) (by rw [HC.out.2.2.2.1];rfl) HC.out.1 HC.out.2.1).mono ?_
  rintro e w3 ⟨z,rfl,hb_,hzx,hzf⟩
  replace HB:=Lib.hid hb_
  obtain ⟨F1,hF1⟩ : ∃F1,F1=(z.A,i64s z.x.pen)::(some ad5,P3)::F:=⟨_,rfl⟩
  rw [←hF1] at HB
  have HZ:Hid (z.x=zp 2∧z.Fine):=Lib.hid ⟨hzx,hzf⟩
  have HT0:Hid (T.length=k∧ptrs T=P3∧(∀t∈T,Jm.Ok t.s)∧(some ad5,P3)∈F1∧Within z.fz F1):=Lib.hid ⟨HTl.out,hP3.symm,HOk.out,by rw [hF1];exact List.mem_cons_of_mem _ (List.mem_cons_self ..),zpo hzx (by rw [hF1];exact List.mem_cons_self ..)⟩
  have HG0:Hid (GI f F1 (0 * 8200) 0 T Pp.zero Pp.zero []):=Lib.hid (by
   have hpi:PI f F1 (fun _=>none) (fun _=>0) (fun _ _=>False) 0 Pp.zero:=⟨⟨0,0,rfl,by decide,rfl,by decide,.inl ⟨rfl,rfl⟩⟩,⟨Int.le_refl _,Int.le_refl _⟩,.inl rfl,zl9 F1,zl9 F1⟩
   refine ⟨fun _=>none,fun _=>0,fun _ _=>False,fun i t hi=>⟨[],(HAl.out i t hi).wide (fun q hq=>(by rw [hF1];exact List.mem_cons_of_mem _ (List.mem_cons_of_mem _ hq))) (Nat.zero_le _) (fun _ _ z=>z)⟩,(fun b v hv=>by cases hv),(fun b hb=>absurd rfl hb),hpi,hpi,(fun _=>rfl),(fun x hx=>by cases hx)⟩)
  clear hb_ hzx hzf HTl HOk HAl HWi hP3 hF1
  have HPc:Hid (∀(i:Nat) (t:A1) (T':List A1) (F':Fz) W L r',(ptrs T'=P3∧(some ad5,P3)∈F')→T'[i]? = some t→Bxs w W L r' F'→W.cell? (ad5.add i)=some (.pointer (some ⟨t.ga,0,none⟩))):=Lib.hid (fun i t T' F' W L r' hp hi hB=>by
   obtain ⟨ad,e,-,hcell⟩:=hB.zfc hp.2 i (A1.ptr t) (by rw [←hp.1];show (ptrs T')[i]? = _;unfold ptrs;rw [List.getElem?_map,hi];rfl)
   cases e
   exact hcell)
  go_wp2_with (first|((with_reducible refine zah HB ?_);clear HB;intro w_ HB)|((with_reducible refine zae (d:=some 9) ?_);(first|refine boxa HB rfl ?_|refine boxt HB rfl rfl ?_|refine box1 HB rfl rfl ?_);clear HB;intro b9 w_ HB;refine Kx.fr ?_)|((with_reducible refine zaa (d:=some 9) ?_);(first|refine ala HB ?_|refine al1 HB ?_);clear HB;intro b9 w_ HB;refine Kx.fr ?_)|((with_reducible refine zae (d:=some 10) ?_);(first|refine boxa HB rfl ?_|refine boxt HB rfl rfl ?_|refine box1 HB rfl rfl ?_);clear HB;intro b10 w_ HB;refine Kx.fr ?_)|((with_reducible refine zaa (d:=some 10) ?_);(first|refine ala HB ?_|refine al1 HB ?_);clear HB;intro b10 w_ HB;refine Kx.fr ?_)|((with_reducible refine zae ?_);(first|refine boxa HB rfl ?_|refine boxt HB rfl rfl ?_|refine box1 HB rfl rfl ?_);clear HB;intro b_ w_ HB;refine Kx.fr ?_)|((with_reducible refine zaa ?_);(first|refine ala HB ?_|refine al1 HB ?_);clear HB;intro b_ w_ HB;refine Kx.fr ?_)|((with_reducible refine zab ?_);first|refine Kx.l1 HB rfl rfl ?_|refine Kx.la HB rfl ?_|refine Kx.lo HB rfl HC.out ?_)|((with_reducible refine zac ?_);first|refine l1g HB rfl rfl rfl ?_|refine Kx.lag HB rfl rfl ?_|refine Kx.log HB rfl HC.out rfl ?_)|((with_reducible refine zad ?_);(first|refine stwa HB rfl rfl ?_|refine sta HB rfl rfl ?_|refine Kx.stc HB rfl rfl ?_|refine Kx.stt HB rfl rfl rfl ?_|refine Kx.st1 HB rfl rfl rfl ?_);clear HB;intro w_ HB))
  replace HB:=Lib.hid (HB.out.zn0 34 12)
  go_loopg [11,12,13] len (fun gh bx dx ix wr=>∃(j:Nat) (T:List A1) (F:Fz) (p0 p1:Pp) (bal:Int) (ds:List Pt) (A12:Option Addr) (c12 qd:Nat),gh+j=len∧bx = .int .i64 bal∧dx = .slice A12 qd c12∧ix = .int .i64 (j:Int)∧0≤bal∧bal≤j∧qd≤j∧Hid (T.length=k∧ptrs T=P3∧(∀t∈T,Jm.Ok t.s)∧(some ad5,P3)∈F∧Within z.fz F)∧Hid (GI f F (j * 8200) bal T p0 p1 (ds.map (·.x)))∧Hid (ds.length=qd∧∀d∈ds,d.Fine∧Within d.fz F∧d.n≤9000000∧d.n'≤9000000)∧Hid (Bxs w wr ((b10,pp2 p0 p1)::(b9,z.cells)::(b6,cf c)::abx T) (⟨A12,c12,34,12,qd,cat Pt.cells ds⟩::arw T) F))
  case atStart=>exact ⟨0,T,F1,Pp.zero,Pp.zero,0,[],none,0,0,by omega,rfl,rfl,rfl,Int.le_refl _,Int.le_refl _,Nat.le_refl _,HT0,HG0,Lib.hid ⟨rfl,fun d hd=>by cases hd⟩,HB⟩
  case round =>
   clear HB HT0 HG0
   obtain ⟨j,T,F,p0,p1,bal,ds,A12,c12,qd,hj,rfl,rfl,rfl,hb0,hb1,hqd,HT3,HG,HD,HB⟩:=hrel
   by_cases hlt:j < len
   case neg =>
    obtain rfl:j=len:=by omega
    have d3:decide ((j:Int) < (j:Int))=false:=by simp
    go_wp2_with (first|((with_reducible refine zah HB ?_);clear HB;intro w_ HB)|((with_reducible refine zab ?_);first|refine Kx.l1 HB rfl rfl ?_|refine Kx.la HB rfl ?_)|((with_reducible refine zac ?_);first|refine l1g HB rfl rfl rfl ?_|refine Kx.lag HB rfl rfl ?_))
    go_loopg [22] (qd+1) (fun gh ix wr=>∃i:Nat,gh+i=qd+2∧1≤i∧ix = .int .i64 (i:Int)∧Hid (Bxs w wr ((b10,pp2 p0 p1)::(b9,z.cells)::(b6,cf c)::abx T) (⟨A12,c12,34,12,qd,cat Pt.cells ds⟩::arw T) F))
    case atStart=>exact ⟨1,by omega,Nat.le_refl _,rfl,HB⟩
    case round =>
     clear HB
     obtain ⟨i,hi,hi1,rfl,HB⟩:=hrel
     by_cases hiq:i < qd
     ·have d5:(i:Int) < (qd:Int):=by omega
      have d6:(0:Int) < (qd:Int):=by omega
      have d6':0 < qd:=by omega
      obtain ⟨x,hx⟩ : ∃x,ds[0]? = some x:=⟨ds[0]'(by rw [HD.out.1];omega),List.getElem?_eq_getElem _⟩
      obtain ⟨y,hy⟩ : ∃y,ds[i]? = some y:=⟨ds[i]'(by rw [HD.out.1];exact hiq),List.getElem?_eq_getElem _⟩
      have hxy:x.x=y.x:=HG.out.one (List.mem_map.2 ⟨x,List.mem_of_getElem? hx,rfl⟩) (List.mem_map.2 ⟨y,List.mem_of_getElem? hy,rfl⟩)
      have hxo:=HD.out.2 x (List.mem_of_getElem? hx)
      have hyo:=HD.out.2 y (List.mem_of_getElem? hy)
      have HSm:Hid (∀W lb rb,Bxs w W lb rb F→Calls Tryz.prog 21 #[.agg x.cells.toArray,.agg y.cells.toArray] W fun e w'=>e = .returned (.bool true)∧Below W.heap.size W w'):=Lib.hid (fun W lb rb q=>PSame_eq x y hxy W ⟨hxo.1.ok,hxo.2.1.rd q (List.mem_cons_self ..),hxo.2.1.rd q (List.mem_cons_of_mem _ (List.mem_cons_self ..)),hxo.1.c2,hxo.1.l1,hxo.1.l2⟩ ⟨hyo.1.ok,hyo.2.1.rd q (List.mem_cons_self ..),hyo.2.1.rd q (List.mem_cons_of_mem _ (List.mem_cons_self ..)),hyo.1.c2,hyo.1.l1,hyo.1.l2⟩ hxo.2.2)
      obtain ⟨ad12,rfl,-,-⟩:=Rd.part Pt.zcu (HB.out.rowRd (A:=A12)) hx (by decide)
      have HCx:Hid (∀W lb rb,Bxs w W lb (⟨some ad12,c12,34,12,qd,cat Pt.cells ds⟩::rb) F→(∀a v,x.cells[a]? = some v→W.cell? (ad12.add a)=some v)∧(∀a v,y.cells[a]? = some v→W.cell? ((ad12.add (i * 12)).add a)=some v)):=Lib.hid (fun W lb rb q=>by
       obtain ⟨a1,e1,-,c1⟩:=Rd.part Pt.zcu (q.rowRd (A:=some ad12)) hx (by decide)
       obtain ⟨a2,e2,-,c2⟩:=Rd.part Pt.zcu (q.rowRd (A:=some ad12)) hy (by decide)
       cases e1;cases e2
       exact ⟨fun a v ha=>by have:=c1 a v ha;rwa [Nat.zero_mul,Nat.zero_add] at this,fun a v ha=>by rw [addr_add_add];exact c2 a v ha⟩)
      clear hx hy hxy hxo hyo
      go_upto_region 46 with (first|((with_reducible refine zah HB ?_);clear HB;intro w_ HB)|((with_reducible refine zab ?_);first|refine Kx.l1 HB rfl rfl ?_|refine Kx.la HB rfl ?_)|((with_reducible refine zac ?_);first|refine l1g HB rfl rfl rfl ?_|refine Kx.lag HB rfl rfl ?_))
      have hip:(Tryz.prog.info? 34).map (·.size)=some 12:=by kernel_rfl
      refine Kx.zc5 (fun w'=>(∀a v,x.cells[a]? = some v→w'.cell? (ad12.add a)=some v)∧(∀a v,y.cells[a]? = some v→w'.cell? ((ad12.add (i * 12)).add a)=some v)) (fun w'=>Bxs w w' ((b10,pp2 p0 p1)::(b9,z.cells)::(b6,cf c)::abx T) (⟨some ad12,c12,34,12,qd,cat Pt.cells ds⟩::arw T) F) (fun i=>false) (by kernel_rfl) HB.out.drew ?_
      refine tkS 0 rfl (fun w' q=>HCx.out _ _ _ q) ?_
      refine tkS 1 rfl (fun w' q=>HCx.out _ _ _ q) ?_
      refine tkS 2 rfl (fun w' q=>HCx.out _ _ _ q) ?_ (v:=.agg x.cells.toArray) (hy:=fun w1 hC=>zc2 ad12 rfl x.cells (Tryz.isAgg34 _) hip (fun a v h=>hC.1 a v h))
      refine tkS 3 rfl (fun w' q=>HCx.out _ _ _ q) ?_
      refine tkS 4 rfl (fun w' q=>HCx.out _ _ _ q) ?_
      refine tkS 5 rfl (fun w' q=>HCx.out _ _ _ q) ?_
      refine tkS 6 rfl (fun w' q=>HCx.out _ _ _ q) ?_ (v:=.agg y.cells.toArray) (hy:=fun w1 hC=>zc2 (ad12.add (i * 12)) rfl y.cells (Tryz.isAgg34 _) hip (fun a v h=>hC.2 a v h))
      refine Kx.zfn (ι:=Unit) 7 (fun _ => .bool true) (fun _ w'=>Bxs w w' ((b10,pp2 p0 p1)::(b9,z.cells)::(b6,cf c)::abx T) (⟨some ad12,c12,34,12,qd,cat Pt.cells ds⟩::arw T) F) () rfl (fun _=>za7) (fun _ w' q=>HCx.out _ _ _ q) ?eSm (fun w1 hw=>(HSm.out w1 _ _ hw).mono fun e w' q=>⟨(),q.1,hw.call q.2⟩) ?hSm
      case eSm=>(intro w hw;go_simp;try (first|(refine ⟨?_,?_⟩<;>with_reducible rfl)|with_reducible rfl))
      intro _
      refine tkS 8 rfl (fun w' q=>HCx.out _ _ _ q) ?_
      refine zan (by kernel_rfl) ?_
      clear HB
      intro w_ HJ_
      have HB:=Lib.hid HJ_
      clear HJ_
      go_wp2_with (first|((with_reducible refine zah HB ?_);clear HB;intro w_ HB)|((with_reducible refine zab ?_);first|refine Kx.l1 HB rfl rfl ?_|refine Kx.la HB rfl ?_)|((with_reducible refine zac ?_);first|refine l1g HB rfl rfl rfl ?_|refine Kx.lag HB rfl rfl ?_))
      go_roundg (gk - 1)
      case measure=>omega
      case rel=>exact ⟨i+1,by omega,by omega,by go_num,HB⟩
     ·have d5:decide ((i:Int) < (qd:Int))=false:=decide_eq_false (by omega)
      go_wp2_with (first|((with_reducible refine zah HB ?_);clear HB;intro w_ HB)|((with_reducible refine zab ?_);first|refine Kx.l1 HB rfl rfl ?_|refine Kx.la HB rfl ?_)|((with_reducible refine zac ?_);first|refine l1g HB rfl rfl rfl ?_|refine Kx.lag HB rfl rfl ?_))
      go_ret
      exact ⟨rfl,HB.out.below⟩
   obtain ⟨o,ho⟩ : ∃o,os[j]? = some o:=⟨os[j]'(by rw [HLen.out];exact hlt),List.getElem?_eq_getElem _⟩
   obtain ⟨ad,rfl,-,hcc⟩:=Rd.part Rn.zcu HRd.out ho (by decide)
   have d3:(j:Int) < (len:Int):=by omega
   have HC2:=Lib.hid (fun x v (hx:o.cells[x]? = some v)=>(by rw [addr_add_add];exact hcc x v hx:w.cell? ((ad.add (j * 4)).add x)=some v))
   clear hcc ho HAt HRd HLen
   go_upto_region 19 with (first|((with_reducible refine zax ?_);(refine zhz rfl 59 _ rfl _ rfl o.cells _ (fun x v hx=>HB.out.old (HC2.out x v hx)) Tryz.underlying59 rfl hio ?_))|(first|((with_reducible refine zah HB ?_);clear HB;intro w_ HB)|((with_reducible refine zae (d:=some 14) ?_);(first|refine boxa HB rfl ?_|refine boxt HB rfl rfl ?_|refine box1 HB rfl rfl ?_);clear HB;intro b14 w_ HB;refine Kx.fr ?_)|((with_reducible refine zaa (d:=some 14) ?_);(first|refine ala HB ?_|refine al1 HB ?_);clear HB;intro b14 w_ HB;refine Kx.fr ?_)|((with_reducible refine zae ?_);(first|refine boxa HB rfl ?_|refine boxt HB rfl rfl ?_|refine box1 HB rfl rfl ?_);clear HB;intro b_ w_ HB;refine Kx.fr ?_)|((with_reducible refine zaa ?_);(first|refine ala HB ?_|refine al1 HB ?_);clear HB;intro b_ w_ HB;refine Kx.fr ?_)|((with_reducible refine zab ?_);first|refine Kx.l1 HB rfl rfl ?_|refine Kx.la HB rfl ?_|refine Kx.lo HB rfl HC.out ?_)|((with_reducible refine zac ?_);first|refine l1g HB rfl rfl rfl ?_|refine Kx.lag HB rfl rfl ?_|refine Kx.log HB rfl HC.out rfl ?_)|((with_reducible refine zad ?_);(first|refine stwa HB rfl rfl ?_|refine sta HB rfl rfl ?_|refine Kx.stc HB rfl rfl ?_|refine Kx.stt HB rfl rfl rfl ?_|refine Kx.st1 HB rfl rfl rfl ?_);clear HB;intro w_ HB)))
   clear HC2 d3
   obtain ⟨tm,htm⟩ : ∃tm:Nat,bits .and .i64 o.to 255=(tm:Int):=⟨(o.to % 256).toNat,by rw [and255];omega⟩
   obtain ⟨ti,hti⟩ : ∃ti:Nat,ti=tm % k:=⟨_,rfl⟩
   have hti3:ti < k:=by rw [hti];exact Nat.mod_lt _ (by omega)
   have g3:(tm:Int).tmod (k:Int)=(ti:Int):=by rw [Int.tmod_eq_emod_of_nonneg (Int.natCast_nonneg _),hti];exact (Int.natCast_emod tm k).symm
   have g4:IntKind.i64.wrap (ti:Int)=(ti:Int):=by rw [IntKind.wrap_i64];omega
   have g5:((k:Int) == 0)=false:=beq_false_of_ne (by omega)
   have g6:(k:Int)≠0:=by omega
   have hk01:bits .and .i64 o.who 1=0∨bits .and .i64 o.who 1=1:=by rw [and1];omega
   obtain ⟨V,hV⟩ : ∃V,bits BinOp.and IntKind.i64 o.what 3=V:=⟨_,rfl⟩
   obtain ⟨kk,hkk⟩ : ∃kk:Int,bits .and .i64 o.who 1=kk:=⟨_,rfl⟩
   rw [hkk] at hk01
   clear hti
   go_upto_if 73 with (first|((with_reducible refine zah HB ?_);clear HB;intro w_ HB)|((with_reducible refine zab ?_);first|refine Kx.l1 HB rfl rfl ?_|refine Kx.la HB rfl ?_)|((with_reducible refine zac ?_);first|refine l1g HB rfl rfl rfl ?_|refine Kx.lag HB rfl rfl ?_))
   obtain ⟨dn,hdn⟩ : ∃dn,o.down=dn:=⟨_,rfl⟩
   rw [hdn]
   clear hdn
   go_cut [84] from 74 to 83 (fun ev wx=>∃(T':List A1) (F':Fz),Hid (T'.length=k∧ptrs T'=P3∧(∀t∈T',Jm.Ok t.s)∧(some ad5,P3)∈F'∧Within z.fz F')∧Hid (GI f F' (j * 8200) bal T' p0 p1 (ds.map (·.x)))∧Hid (ds.length=qd∧∀d∈ds,d.Fine∧Within d.fz F'∧d.n≤9000000∧d.n'≤9000000)∧Hid (Bxs w wx ((b14,o.cells)::(b10,pp2 p0 p1)::(b9,z.cells)::(b6,cf c)::abx T') (⟨A12,c12,34,12,qd,cat Pt.cells ds⟩::arw T') F'))
   case first =>
    cases dn with
    | false =>
      go_wp2_with (first|((with_reducible refine zah HB ?_);clear HB;intro w_ HB)|((with_reducible refine zab ?_);first|refine Kx.l1 HB rfl rfl ?_|refine Kx.la HB rfl ?_)|((with_reducible refine zac ?_);first|refine l1g HB rfl rfl rfl ?_|refine Kx.lag HB rfl rfl ?_))
      go_meet
      case rel=>exact ⟨T,F,HT3,HG,HD,HB⟩
    | true =>
      obtain ⟨t,ht⟩ : ∃t,T[ti]? = some t:=⟨T[ti]'(by rw [HT3.out.1];exact hti3),List.getElem?_eq_getElem _⟩
      have HPt:Hid (∀W lb r',Bxs w W lb r' F→W.cell? (ad5.add ti)=some (.pointer (some ⟨t.ga,0,none⟩))):=Lib.hid (fun W lb r' q=>HPc.out ti t T F W lb r' ⟨HT3.out.2.1,HT3.out.2.2.2.1⟩ ht q)
      have HTi:=Lib.hid ht
      obtain ⟨rs,hnb,hnc,hag⟩:=HG.out.of ht
      have hsz:Jm.size t.s≤2460000:=by have h:=hnb.sz;have h2:j * 8200≤300 * 8200:=Nat.mul_le_mul_right _ (by omega);omega
      have HSz:=Lib.hid hsz
      have HJ0:=zoh (l:=[(b14,o.cells),(b10,pp2 p0 p1),(b9,z.cells),(b6,cf c)]) (r:=[⟨A12,c12,34,12,qd,cat Pt.cells ds⟩]) HB.out HT3.out.2.2.1 ht
      obtain ⟨ok,KA,KC,RA,RC,HB2⟩:=HJ0
      clear HB
      have HB:Hid (Bxs w w_ ((t.g,jcs t.s KA KC RA RC)::(t.ga,t.a.cells t.g)::(b14,o.cells)::(b10,pp2 p0 p1)::(b9,z.cells)::(b6,cf c)::abx (T.eraseIdx ti)) (jrow KA KC t.s.kept::jrow RA RC t.s.rest::⟨A12,c12,34,12,qd,cat Pt.cells ds⟩::arw (T.eraseIdx ti)) F):=Lib.hid HB2
      have HOk:=Lib.hid ok
      clear HB2 ok hsz ht
      have i1:(ti:Int) < (k:Int):=by omega
      have HNc:=Lib.hid hnc
      have HAg:=Lib.hid hag
      clear hnb hnc hag HPc
      go_wp2_with (first|((with_reducible refine zab ?_);(refine zel 27 _ rfl (ad5.add ti) rfl (Tryz.isAgg27 _) _ (HPt.out _ _ _ HB.out) rfl ?_))|(go_at_call 9;refine (znl (ga:=t.ga) (a:=t.a) (g:=t.g) HB.out).mono ?_;rintro e w_ ⟨rfl,hb_⟩;replace HB:=Lib.hid (HB.out.call hb_);clear hb_)|(go_at_call 11;fail)|(first|((with_reducible refine zah HB ?_);clear HB;intro w_ HB)|((with_reducible refine zab ?_);first|refine Kx.l1 HB rfl rfl ?_|refine Kx.la HB rfl ?_)|((with_reducible refine zac ?_);first|refine l1g HB rfl rfl rfl ?_|refine Kx.lag HB rfl rfl ?_)))
      refine (crash_x ⟨HOk.out,_,_,_,_,HB.out⟩ 0 (Nat.le_trans HSz.out (by decide))).mono ?_
      rintro e w3 ⟨rfl,HJ3⟩
      obtain ⟨ok3,KA3,KC3,RA3,RC3,HB3⟩:=HJ3
      clear HB HOk
      have HB:=Lib.hid HB3
      have HOk:=Lib.hid ok3
      clear HB3 ok3
      go_wp2_with (first|((with_reducible refine zab ?_);(refine zel 27 _ rfl (ad5.add ti) rfl (Tryz.isAgg27 _) _ (HPt.out _ _ _ HB.out) rfl ?_))|(go_at_call 12;fail)|(first|((with_reducible refine zah HB ?_);clear HB;intro w_ HB)|((with_reducible refine zab ?_);first|refine Kx.l1 HB rfl rfl ?_|refine Kx.la HB rfl ?_)|((with_reducible refine zac ?_);first|refine l1g HB rfl rfl rfl ?_|refine Kx.lag HB rfl rfl ?_)))
      refine (zr5 ⟨HOk.out,_,_,_,_,HB.out⟩ HNc.out.inv [1,0] 2 (fun q hq => .inr (by rw [List.mem_singleton.1 hq];exact HNc.out.ta)) HNc.out.tl HNc.out.cf HNc.out.tg rs HNc.out.ji (Nat.le_trans (Jm.zgr t.s 0) (Nat.le_trans HSz.out (by decide))) HT.out.1 HT.out.2 0).mono ?_
      rintro e w4 ⟨a',F',er,rfl,HJ4,hst⟩
      obtain ⟨t',e3,e4,e5,e6,hok,HB4⟩:=ze6 (t:=t) (i:=ti) (T:=T) (l:=[(b14,o.cells),(b10,pp2 p0 p1),(b9,z.cells),(b6,cf c)]) (r:=[⟨A12,c12,34,12,qd,cat Pt.cells ds⟩]) HJ4 HT3.out.2.2.1 HTi.out
      have HGn:Hid (GI f F' (j * 8200) bal (T.set ti t') p0 p1 (ds.map (·.x))):=Lib.hid (HAg.out _ _ _ _ hst t' e5 e6)
      have HTn:Hid ((T.set ti t').length=k∧ptrs (T.set ti t')=P3∧(∀t∈(T.set ti t'),Jm.Ok t.s)∧(some ad5,P3)∈F'∧Within z.fz F'):=Lib.hid ⟨by rw [List.length_set];exact HT3.out.1,by rw [zdx HTi.out e3];exact HT3.out.2.1,hok,hst.more _ HT3.out.2.2.2.1,fun q hq=>(HT3.out.2.2.2.2 q hq).imp id (hst.more q)⟩
      have HDn:Hid (ds.length=qd∧∀d∈ds,d.Fine∧Within d.fz F'∧d.n≤9000000∧d.n'≤9000000):=Lib.hid ⟨HD.out.1,fun d hd=>⟨(HD.out.2 d hd).1,fun q hq=>((HD.out.2 d hd).2.1 q hq).imp id (hst.more q),(HD.out.2 d hd).2.2⟩⟩
      clear HB HJ4 hst e3 e4 e5 e6 hok
      have HB:Hid (Bxs w w4 ((b14,o.cells)::(b10,pp2 p0 p1)::(b9,z.cells)::(b6,cf c)::abx (T.set ti t')) (⟨A12,c12,34,12,qd,cat Pt.cells ds⟩::arw (T.set ti t')) F'):=Lib.hid HB4
      clear HB4
      go_wp2_with (first|((with_reducible refine zah HB ?_);clear HB;intro w_ HB)|((with_reducible refine zab ?_);first|refine Kx.l1 HB rfl rfl ?_|refine Kx.la HB rfl ?_)|((with_reducible refine zac ?_);first|refine l1g HB rfl rfl rfl ?_|refine Kx.lag HB rfl rfl ?_))
      go_meet
      case rel=>exact ⟨T.set ti t',F',HTn,HGn,HDn,HB⟩
   case rest =>
   clear HB HT3 HG HD
   obtain ⟨T,F,HT3,HG,HD,HB⟩:=hcut
   go_upto_block 4 with (first|((with_reducible refine zah HB ?_);clear HB;intro w_ HB)|((with_reducible refine zab ?_);first|refine Kx.l1 HB rfl rfl ?_|refine Kx.la HB rfl ?_)|((with_reducible refine zac ?_);first|refine l1g HB rfl rfl rfl ?_|refine Kx.lag HB rfl rfl ?_))
   have HGw:=Lib.hid (HG.out.le (show j * 8200≤(j+1) * 8200 by omega))
   by_cases hco:(V≠0∧V≠1)∧(if kk=0 then p0.ph else p1.ph) < 2
   case pos =>
    have e0:(V == 0)=false:=beq_false_of_ne hco.1.1
    have e1:(V == 1)=false:=beq_false_of_ne hco.1.2
    rcases hk01 with rfl|rfl
    ·have e2:decide (p0.ph < 2)=true:=decide_eq_true (by have:=hco.2;rwa [if_pos rfl] at this)
     clear hco
     go_wp2_with (first|((with_reducible refine zah HB ?_);clear HB;intro w_ HB)|((with_reducible refine zab ?_);first|refine Kx.l1 HB rfl rfl ?_|refine Kx.la HB rfl ?_)|((with_reducible refine zac ?_);first|refine l1g HB rfl rfl rfl ?_|refine Kx.lag HB rfl rfl ?_))
     go_roundg (gk - 1)
     case measure=>omega
     case rel=>exact ⟨j+1,T,F,p0,p1,bal,ds,A12,c12,qd,by omega,rfl,rfl,by go_num,hb0,by omega,by omega,HT3,HGw,HD,Lib.hid HB.out.tail⟩
    ·have e2:decide (p1.ph < 2)=true:=decide_eq_true (by have:=hco.2;rwa [if_neg (by decide)] at this)
     clear hco
     go_wp2_with (first|((with_reducible refine zah HB ?_);clear HB;intro w_ HB)|((with_reducible refine zab ?_);first|refine Kx.l1 HB rfl rfl ?_|refine Kx.la HB rfl ?_)|((with_reducible refine zac ?_);first|refine l1g HB rfl rfl rfl ?_|refine Kx.lag HB rfl rfl ?_))
     go_roundg (gk - 1)
     case measure=>omega
     case rel=>exact ⟨j+1,T,F,p0,p1,bal,ds,A12,c12,qd,by omega,rfl,rfl,by go_num,hb0,by omega,by omega,HT3,HGw,HD,Lib.hid HB.out.tail⟩
   go_cut [11,17,18,19,20,21] from 88 to 173 (fun b11 b17 b18 b19 b20 b21 wx=>∃(T':List A1) (F':Fz) (p0' p1':Pp) (bal':Int),b11 = .int .i64 bal'∧0≤bal'∧bal'≤(j:Int)+1∧Hid (T'.length=k∧ptrs T'=P3∧(∀t∈T',Jm.Ok t.s)∧(some ad5,P3)∈F'∧Within z.fz F')∧Hid (GI f F' ((j+1) * 8200) bal' T' p0' p1' (ds.map (·.x)))∧Hid (ds.length=qd∧∀d∈ds,d.Fine∧Within d.fz F'∧d.n≤9000000∧d.n'≤9000000)∧Hid (Bxs w wx ((b14,o.cells)::(b10,pp2 p0' p1')::(b9,z.cells)::(b6,cf c)::abx T') (⟨A12,c12,34,12,qd,cat Pt.cells ds⟩::arw T') F'))
   case first =>
    by_cases v0:V=0
    ·have e0:(V == 0)=true:=beq_iff_eq.2 v0
     obtain ⟨b1,hb1e⟩ : ∃b1,bal+1=b1:=⟨_,rfl⟩
     have gb:IntKind.i64.wrap (bal+1)=b1:=by rw [IntKind.wrap_i64];omega
     have gb':wrap64 (bal+1)=b1:=by rw [IntWalk.wrap64_in _ (by omega)];omega
     obtain ⟨pc,hpc⟩ : ∃pc,b1.tmod 100=pc:=⟨_,rfl⟩
     have hpc2:0≤pc∧pc≤99:=by rw [←hpc,Int.tmod_eq_emod_of_nonneg (by omega)];omega
     have gp:IntKind.i64.wrap pc=pc:=by rw [IntKind.wrap_i64];omega
     have HBal:Hid (bal+1=b1):=Lib.hid hb1e
     have hb1b:0≤b1∧b1≤(j:Int)+1:=by omega
     clear v0 HPc hb1e hco
     rcases hk01 with rfl|rfl
     ·go_upto_region 34 with (first|((with_reducible refine Kx.zeg ?_);refine Kx.zfu 2 1 rfl (by decide) HB ?_;clear HB;intro w_ HB)|((with_reducible refine Kx.zbk ?_);refine Km.wpList_build rfl 34 _ rfl #[(1,.int .i64 0),(2,.int .i64 (-1)),(3,.int .i64 (-1)),(4,.int .i64 pc),(10,.slice (some ⟨_,0,none⟩) 2 2)] (by first|(simp only [List.map_toArray,List.map_cons,List.map_nil];rfl)|(go_simp;try rfl)) (ownQ 0 pc (some ⟨_,0,none⟩)).cells.toArray (zk9 _ _ _) ?_;refine Kx.framed ?_ (by rfl))|(first|((with_reducible refine zah HB ?_);clear HB;intro w_ HB)|((with_reducible refine zae (d:=some 17) ?_);(first|refine boxa HB rfl ?_|refine boxt HB rfl rfl ?_|refine box1 HB rfl rfl ?_);clear HB;intro b17 w_ HB;refine Kx.fr ?_)|((with_reducible refine zaa (d:=some 17) ?_);(first|refine ala HB ?_|refine al1 HB ?_);clear HB;intro b17 w_ HB;refine Kx.fr ?_)|((with_reducible refine zae ?_);(first|refine boxa HB rfl ?_|refine boxt HB rfl rfl ?_|refine box1 HB rfl rfl ?_);clear HB;intro b_ w_ HB;refine Kx.fr ?_)|((with_reducible refine zaa ?_);(first|refine ala HB ?_|refine al1 HB ?_);clear HB;intro b_ w_ HB;refine Kx.fr ?_)|((with_reducible refine zab ?_);first|refine Kx.l1 HB rfl rfl ?_|refine Kx.la HB rfl ?_|refine Kx.lo HB rfl HC.out ?_)|((with_reducible refine zac ?_);first|refine l1g HB rfl rfl rfl ?_|refine Kx.lag HB rfl rfl ?_|refine Kx.log HB rfl HC.out rfl ?_)|((with_reducible refine zad ?_);(first|refine stwa HB rfl rfl ?_|refine sta HB rfl rfl ?_|refine Kx.stc HB rfl rfl ?_|refine Kx.stt HB rfl rfl rfl ?_|refine Kx.st1 HB rfl rfl rfl ?_);clear HB;intro w_ HB)))
      obtain ⟨Ao,hAo⟩ : ∃Ao,Bxs w w_ ((b17,(ownQ 0 pc Ao).cells)::(b14,o.cells)::(b10,pp2 p0 p1)::(b9,z.cells)::(b6,cf c)::abx T) (⟨A12,c12,34,12,qd,cat Pt.cells ds⟩::arw T) ((Ao,i64s [0,0])::F):=⟨_,HB.out.freeze⟩
      clear HB
      have HB:=Lib.hid hAo
      clear hAo
      have HS:=Lib.hid (fun W=>ziz 1 b1 (ownQ 0 pc Ao) W)
      have HGn:Hid (GI f ((Ao,i64s [0,0])::F) ((j+1) * 8200) b1 T (start 1 b1 (ownQ 0 pc Ao)) p1 (ds.map (·.x))):=Lib.hid (by
       have:=HG.out.begin (own_ok 0 pc Ao F (by decide) hpc2) (fun x hx=>List.mem_cons_of_mem _ hx) hb0
       rw [HBal.out] at this
       exact this.le (by omega))
      have HTn:Hid (T.length=k∧ptrs T=P3∧(∀t∈T,Jm.Ok t.s)∧(some ad5,P3)∈((Ao,i64s [0,0])::F)∧Within z.fz ((Ao,i64s [0,0])::F)):=Lib.hid ⟨HT3.out.1,HT3.out.2.1,HT3.out.2.2.1,List.mem_cons_of_mem _ HT3.out.2.2.2.1,fun q hq=>(HT3.out.2.2.2.2 q hq).imp id (fun z=>List.mem_cons_of_mem _ z)⟩
      have HDn:Hid (ds.length=qd∧∀d∈ds,d.Fine∧Within d.fz ((Ao,i64s [0,0])::F)∧d.n≤9000000∧d.n'≤9000000):=Lib.hid ⟨HD.out.1,fun d hd=>⟨(HD.out.2 d hd).1,fun q hq=>((HD.out.2 d hd).2.1 q hq).imp id (fun z=>List.mem_cons_of_mem _ z),(HD.out.2 d hd).2.2⟩⟩
      go_wp2_with (first|(go_at_call 18;refine Calls.mono (HS.out _) ?_;rintro e w_ ⟨rfl,hb_⟩;replace HB:=Lib.hid (HB.out.call hb_);clear hb_)|(first|((with_reducible refine zah HB ?_);clear HB;intro w_ HB)|((with_reducible refine zae ?_);(first|refine boxa HB rfl ?_|refine boxt HB rfl rfl ?_|refine box1 HB rfl rfl ?_);clear HB;intro b_ w_ HB;refine Kx.fr ?_)|((with_reducible refine zaa ?_);(first|refine ala HB ?_|refine al1 HB ?_);clear HB;intro b_ w_ HB;refine Kx.fr ?_)|((with_reducible refine zab ?_);first|refine Kx.l1 HB rfl rfl ?_|refine Kx.la HB rfl ?_|refine Kx.lo HB rfl HC.out ?_)|((with_reducible refine zac ?_);first|refine l1g HB rfl rfl rfl ?_|refine Kx.lag HB rfl rfl ?_|refine Kx.log HB rfl HC.out rfl ?_)|((with_reducible refine zad ?_);(first|refine stwa HB rfl rfl ?_|refine sta HB rfl rfl ?_|refine Kx.stc HB rfl rfl ?_|refine Kx.stt HB rfl rfl rfl ?_|refine Kx.st1 HB rfl rfl rfl ?_);clear HB;intro w_ HB)))
      go_meet
      case rel=>exact ⟨T,_,start 1 b1 (ownQ 0 pc Ao),p1,b1,rfl,hb1b.1,hb1b.2,HTn,HGn,HDn,Lib.hid HB.out.tail⟩
     ·go_upto_region 34 with (first|((with_reducible refine Kx.zeg ?_);refine Kx.zfu 2 1 rfl (by decide) HB ?_;clear HB;intro w_ HB)|((with_reducible refine Kx.zbk ?_);refine Km.wpList_build rfl 34 _ rfl #[(1,.int .i64 1),(2,.int .i64 (-1)),(3,.int .i64 (-1)),(4,.int .i64 pc),(10,.slice (some ⟨_,0,none⟩) 2 2)] (by first|(simp only [List.map_toArray,List.map_cons,List.map_nil];rfl)|(go_simp;try rfl)) (ownQ 1 pc (some ⟨_,0,none⟩)).cells.toArray (zk9 _ _ _) ?_;refine Kx.framed ?_ (by rfl))|(first|((with_reducible refine zah HB ?_);clear HB;intro w_ HB)|((with_reducible refine zae (d:=some 17) ?_);(first|refine boxa HB rfl ?_|refine boxt HB rfl rfl ?_|refine box1 HB rfl rfl ?_);clear HB;intro b17 w_ HB;refine Kx.fr ?_)|((with_reducible refine zaa (d:=some 17) ?_);(first|refine ala HB ?_|refine al1 HB ?_);clear HB;intro b17 w_ HB;refine Kx.fr ?_)|((with_reducible refine zae ?_);(first|refine boxa HB rfl ?_|refine boxt HB rfl rfl ?_|refine box1 HB rfl rfl ?_);clear HB;intro b_ w_ HB;refine Kx.fr ?_)|((with_reducible refine zaa ?_);(first|refine ala HB ?_|refine al1 HB ?_);clear HB;intro b_ w_ HB;refine Kx.fr ?_)|((with_reducible refine zab ?_);first|refine Kx.l1 HB rfl rfl ?_|refine Kx.la HB rfl ?_|refine Kx.lo HB rfl HC.out ?_)|((with_reducible refine zac ?_);first|refine l1g HB rfl rfl rfl ?_|refine Kx.lag HB rfl rfl ?_|refine Kx.log HB rfl HC.out rfl ?_)|((with_reducible refine zad ?_);(first|refine stwa HB rfl rfl ?_|refine sta HB rfl rfl ?_|refine Kx.stc HB rfl rfl ?_|refine Kx.stt HB rfl rfl rfl ?_|refine Kx.st1 HB rfl rfl rfl ?_);clear HB;intro w_ HB)))
      obtain ⟨Ao,hAo⟩ : ∃Ao,Bxs w w_ ((b17,(ownQ 1 pc Ao).cells)::(b14,o.cells)::(b10,pp2 p0 p1)::(b9,z.cells)::(b6,cf c)::abx T) (⟨A12,c12,34,12,qd,cat Pt.cells ds⟩::arw T) ((Ao,i64s [0,0])::F):=⟨_,HB.out.freeze⟩
      clear HB
      have HB:=Lib.hid hAo
      clear hAo
      have HS:=Lib.hid (fun W=>ziz 1 b1 (ownQ 1 pc Ao) W)
      have HGn:Hid (GI f ((Ao,i64s [0,0])::F) ((j+1) * 8200) b1 T p0 (start 1 b1 (ownQ 1 pc Ao)) (ds.map (·.x))):=Lib.hid (by
       have:=(HG.out.swap.begin (own_ok 1 pc Ao F (by decide) hpc2) (fun x hx=>List.mem_cons_of_mem _ hx) hb0).swap
       rw [HBal.out] at this
       exact this.le (by omega))
      have HTn:Hid (T.length=k∧ptrs T=P3∧(∀t∈T,Jm.Ok t.s)∧(some ad5,P3)∈((Ao,i64s [0,0])::F)∧Within z.fz ((Ao,i64s [0,0])::F)):=Lib.hid ⟨HT3.out.1,HT3.out.2.1,HT3.out.2.2.1,List.mem_cons_of_mem _ HT3.out.2.2.2.1,fun q hq=>(HT3.out.2.2.2.2 q hq).imp id (fun z=>List.mem_cons_of_mem _ z)⟩
      have HDn:Hid (ds.length=qd∧∀d∈ds,d.Fine∧Within d.fz ((Ao,i64s [0,0])::F)∧d.n≤9000000∧d.n'≤9000000):=Lib.hid ⟨HD.out.1,fun d hd=>⟨(HD.out.2 d hd).1,fun q hq=>((HD.out.2 d hd).2.1 q hq).imp id (fun z=>List.mem_cons_of_mem _ z),(HD.out.2 d hd).2.2⟩⟩
      go_wp2_with (first|(go_at_call 18;refine Calls.mono (HS.out _) ?_;rintro e w_ ⟨rfl,hb_⟩;replace HB:=Lib.hid (HB.out.call hb_);clear hb_)|(first|((with_reducible refine zah HB ?_);clear HB;intro w_ HB)|((with_reducible refine zae ?_);(first|refine boxa HB rfl ?_|refine boxt HB rfl rfl ?_|refine box1 HB rfl rfl ?_);clear HB;intro b_ w_ HB;refine Kx.fr ?_)|((with_reducible refine zaa ?_);(first|refine ala HB ?_|refine al1 HB ?_);clear HB;intro b_ w_ HB;refine Kx.fr ?_)|((with_reducible refine zab ?_);first|refine Kx.l1 HB rfl rfl ?_|refine Kx.la HB rfl ?_|refine Kx.lo HB rfl HC.out ?_)|((with_reducible refine zac ?_);first|refine l1g HB rfl rfl rfl ?_|refine Kx.lag HB rfl rfl ?_|refine Kx.log HB rfl HC.out rfl ?_)|((with_reducible refine zad ?_);(first|refine stwa HB rfl rfl ?_|refine sta HB rfl rfl ?_|refine Kx.stc HB rfl rfl ?_|refine Kx.stt HB rfl rfl rfl ?_|refine Kx.st1 HB rfl rfl rfl ?_);clear HB;intro w_ HB)))
      go_meet
      case rel=>exact ⟨T,_,p0,start 1 b1 (ownQ 1 pc Ao),b1,rfl,hb1b.1,hb1b.2,HTn,HGn,HDn,Lib.hid HB.out.tail⟩
    have e0:(V == 0)=false:=beq_false_of_ne v0
    obtain ⟨t,ht⟩ : ∃t,T[ti]? = some t:=⟨T[ti]'(by rw [HT3.out.1];exact hti3),List.getElem?_eq_getElem _⟩
    have HPt:Hid (∀W lb r',Bxs w W lb r' F→W.cell? (ad5.add ti)=some (.pointer (some ⟨t.ga,0,none⟩))):=Lib.hid (fun W lb r' q=>HPc.out ti t T F W lb r' ⟨HT3.out.2.1,HT3.out.2.2.2.1⟩ ht q)
    have HTi:=Lib.hid ht
    obtain ⟨rs,hnb,-,-⟩:=HG.out.of ht
    have HOf:=Lib.hid (HG.out.live ht)
    have hsz:Jm.size t.s≤2460000:=by have h:=hnb.sz;have h2:j * 8200≤300 * 8200:=Nat.mul_le_mul_right _ (by omega);omega
    have HSz:=Lib.hid hsz
    have HJ0:=zoh (l:=[(b14,o.cells),(b10,pp2 p0 p1),(b9,z.cells),(b6,cf c)]) (r:=[⟨A12,c12,34,12,qd,cat Pt.cells ds⟩]) HB.out HT3.out.2.2.1 ht
    obtain ⟨ok,KA,KC,RA,RC,HB2⟩:=HJ0
    clear HB
    have HB:Hid (Bxs w _ ((t.g,jcs t.s KA KC RA RC)::(t.ga,t.a.cells t.g)::(b14,o.cells)::(b10,pp2 p0 p1)::(b9,z.cells)::(b6,cf c)::abx (T.eraseIdx ti)) (jrow KA KC t.s.kept::jrow RA RC t.s.rest::⟨A12,c12,34,12,qd,cat Pt.cells ds⟩::arw (T.eraseIdx ti)) F):=Lib.hid HB2
    have HOk:=Lib.hid ok
    clear HB2 ok hsz HPc
    have i1:(ti:Int) < (k:Int):=by omega
    have hf3:f≤3:=by omega
    have hti5:ti < 2 * f+1:=by have:=HN.out;omega
    have htiI:Pm.I (ti:Int):=⟨by omega,by omega⟩
    by_cases v1:V=1
    ·have e1:(V == 1)=true:=beq_iff_eq.2 v1
     clear v0 v1 hco
     rcases hk01 with rfl|rfl
     ·have hoks:=HG.out.oks
      have hm1:MsOk (om 4 10 (ti:Int) p0.b z) (loOf z):=pm_ok HZ.out.2 ⟨by decide,by decide⟩ ⟨by decide,by decide⟩ htiI ⟨by decide,by decide⟩ ⟨by omega,by omega⟩
      have hmz:Within (mfz (om 4 10 (ti:Int) p0.b z) (loOf z)) F:=pm_in HT3.out.2.2.2.2
      obtain ⟨R,hR⟩ : ∃R,handle t.a t.s (om 4 10 (ti:Int) p0.b z) (loOf z) 0=R:=⟨_,rfl⟩
      have hgi:=HG.out.asked hf3 hti5 HTi.out hm1 hmz rfl rfl rfl hR
      have HCl:Hid (∀W,Bxs w W ((t.g,jcs t.s KA KC RA RC)::(t.ga,t.a.cells t.g)::(b14,o.cells)::(b10,pp2 p0 p1)::(b9,z.cells)::(b6,cf c)::abx (T.eraseIdx ti)) (jrow KA KC t.s.kept::jrow RA RC t.s.rest::⟨A12,c12,34,12,qd,cat Pt.cells ds⟩::arw (T.eraseIdx ti)) F→Calls Tryz.prog 14 #[.pointer (some ⟨t.ga,0,none⟩),.agg (mvs (om 4 10 (ti:Int) p0.b z) (loOf z)).toArray,.int .i64 0] W fun e w'=>Outs w w' t.ga t.g ((b14,o.cells)::(b10,pp2 p0 p1)::(b9,z.cells)::(b6,cf c)::abx (T.eraseIdx ti)) (⟨A12,c12,34,12,qd,cat Pt.cells ds⟩::arw (T.eraseIdx ti)) F R e):=Lib.hid (fun W q=>by
       rw [←hR]
       exact zgj ⟨HOk.out,KA,KC,RA,RC,q⟩ hnb.inv.ok (om 4 10 (ti:Int) p0.b z) (loOf z) 0 hm1 hmz HT.out.1 HT.out.2 (Nat.le_trans HSz.out (by decide)) (.inl rfl) ⟨by decide,by decide⟩ HOf.out)
      have HQB:=Lib.hid (zhq 4 10 (ti:Int) p0.b z)
      have HPr:Hid (∀(y:Mm.Ms) (lo:Lo) W,Calls Tryz.prog 19 #[.agg p0.cells.toArray,.agg (cf c).toArray,.agg (mvs y lo).toArray] W fun e w'=>e = .returned (.agg (ppro f p0 (toMx y lo)).cells.toArray)∧Below W.heap.size W w'):=Lib.hid (fun y lo W=>by
       have:=ze7 p0 c (toMx y lo) W hoks.2.2.1
       rwa [HC.out.2.2.2.2.2.2] at this)
      have hip:(Tryz.prog.info? 34).map (·.size)=some 12:=by kernel_rfl
      clear hm1 hmz hR hnb hoks
      obtain ⟨a1,s1,o1⟩:=R
      go_upto_region 36 with (first|((with_reducible refine zah HB ?_);clear HB;intro w_ HB)|((with_reducible refine zab ?_);first|refine Kx.l1 HB rfl rfl ?_|refine Kx.la HB rfl ?_)|((with_reducible refine zac ?_);first|refine l1g HB rfl rfl rfl ?_|refine Kx.lag HB rfl rfl ?_))
      have hsubB:∀w',Bxs w w' ((t.g,jcs t.s KA KC RA RC)::(t.ga,t.a.cells t.g)::(b14,o.cells)::(b10,pp2 p0 p1)::(b9,z.cells)::(b6,cf c)::abx (T.eraseIdx ti)) (jrow KA KC t.s.kept::jrow RA RC t.s.rest::⟨A12,c12,34,12,qd,cat Pt.cells ds⟩::arw (T.eraseIdx ti)) F→(w'.cell? (ad5.add ti)=some (.pointer (some ⟨t.ga,0,none⟩))∧w'.cell? ⟨b10,1,none⟩=some (.int .i64 p0.b)∧∀x v,z.cells[x]? = some v→w'.cell? (Addr.add ⟨b9,0,none⟩ x)=some v):=fun w' q=>⟨HPt.out _ _ _ q,q.cell (b:=b10) (cs:=pp2 p0 p1) (j:=1) (by repeat (first|exact List.Mem.head _|apply List.Mem.tail)) rfl,fun x v hx=>by have:=q.cell (b:=b9) (cs:=z.cells) (j:=x) (by repeat (first|exact List.Mem.head _|apply List.Mem.tail)) hx;rw [zpi];exact this⟩
      refine Kx.zc5 (fun w'=>(w'.cell? (ad5.add ti)=some (.pointer (some ⟨t.ga,0,none⟩))∧w'.cell? ⟨b10,1,none⟩=some (.int .i64 p0.b)∧∀x v,z.cells[x]? = some v→w'.cell? (Addr.add ⟨b9,0,none⟩ x)=some v)) (fun w'=>Bxs w w' ((t.g,jcs t.s KA KC RA RC)::(t.ga,t.a.cells t.g)::(b14,o.cells)::(b10,pp2 p0 p1)::(b9,z.cells)::(b6,cf c)::abx (T.eraseIdx ti)) (jrow KA KC t.s.kept::jrow RA RC t.s.rest::⟨A12,c12,34,12,qd,cat Pt.cells ds⟩::arw (T.eraseIdx ti)) F) (fun i=>false) (by kernel_rfl) HB.out.drew ?_
      refine tkS 0 rfl hsubB ?_
      refine tkS 1 rfl hsubB ?_
      refine tkS 2 rfl hsubB ?_
      refine tkS 3 rfl hsubB ?_ (v:=.pointer (some ⟨t.ga,0,none⟩)) (hy:=fun w1 hC=>zbx (ad5.add ti) rfl (Tryz.isAgg27 _) hC.1)
      refine tkS 4 rfl hsubB ?_
      refine tkS 5 rfl hsubB ?_
      refine tkS 6 rfl hsubB ?_
      refine tkS 7 rfl hsubB ?_
      refine tkS 8 rfl hsubB ?_
      refine tkS 9 rfl hsubB ?_
      refine tkS 10 rfl hsubB ?_ (v:=.int .i64 p0.b) (hy:=fun w1 hC=>zbx ⟨b10,1,none⟩ rfl (Tryz.isAgg2 _) hC.2.1)
      refine tkS 11 rfl hsubB ?_ (v:=.agg z.cells.toArray) (hy:=fun w1 hC=>zc2 ⟨b9,0,none⟩ rfl z.cells (Tryz.isAgg34 _) hip hC.2.2)
      refine tkS 12 rfl hsubB ?_ (v:=.agg (mvs (om 4 10 (ti:Int) p0.b z) (loOf z)).toArray) (hy:=fun w1 hC=>zcr 37 _ rfl #[(0,.int .i64 4),(1,.int .i64 10),(2,.int .i64 (ti:Int)),(3,.int .i64 1),(4,.int .i64 p0.b),(10,.bool true),(11,.agg z.cells.toArray)] (by go_simp;try rfl) _ HQB.out)
      cases o1 with
      | none =>
        have hsubJ:∀w',Jbx w w' t.g s1 ((t.ga,a1.cells t.g)::(b14,o.cells)::(b10,pp2 p0 p1)::(b9,z.cells)::(b6,cf c)::abx (T.eraseIdx ti)) (⟨A12,c12,34,12,qd,cat Pt.cells ds⟩::arw (T.eraseIdx ti)) F→(w'.cell? (ad5.add ti)=some (.pointer (some ⟨t.ga,0,none⟩))∧w'.cell? ⟨b10,1,none⟩=some (.int .i64 p0.b)∧∀x v,z.cells[x]? = some v→w'.cell? (Addr.add ⟨b9,0,none⟩ x)=some v):=fun w' ⟨ok,_,_,_,_,q⟩=>⟨HPt.out _ _ _ q,q.cell (b:=b10) (cs:=pp2 p0 p1) (j:=1) (by repeat (first|exact List.Mem.head _|apply List.Mem.tail)) rfl,fun x v hx=>by have:=q.cell (b:=b9) (cs:=z.cells) (j:=x) (by repeat (first|exact List.Mem.head _|apply List.Mem.tail)) hx;rw [zpi];exact this⟩
        refine Kx.zfn (ι:=Unit) 13 (fun _ => .slice none 0 0) (fun _ w'=>Jbx w w' t.g s1 ((t.ga,a1.cells t.g)::(b14,o.cells)::(b10,pp2 p0 p1)::(b9,z.cells)::(b6,cf c)::abx (T.eraseIdx ti)) (⟨A12,c12,34,12,qd,cat Pt.cells ds⟩::arw (T.eraseIdx ti)) F) () rfl (fun _=>Jbx.bears) (fun _ w' q=>hsubJ w' q) ?eHn0p (fun w1 hw=>(HCl.out w1 hw).mono fun e w' q=>⟨(),q.1,q.2⟩) ?hHn0p
        case eHn0p=>(intro w hw;go_simp;try (first|(refine ⟨?_,?_⟩<;>with_reducible rfl)|with_reducible rfl))
        intro _
        refine tkS 14 rfl hsubJ ?_ (hC:=Jbx.bears)
        refine zan (by kernel_rfl) ?_
        clear HB hsubB hsubJ HPt
        intro w_ HJ_
        have HJn:=Lib.hid HJ_
        have HGn:=Lib.hid (hgi.1 rfl)
        obtain ⟨ok3,KA3,KC3,RA3,RC3,HB3⟩:=HJ_
        have HB:=Lib.hid HB3
        clear HB3 ok3 HCl hgi HOk HPr
        obtain ⟨gq,rfl⟩ : ∃q,q=gk:=⟨_,rfl⟩
        go_wp2_with (first|((with_reducible refine zah HB ?_);clear HB;intro w_ HB)|((with_reducible refine zab ?_);first|refine Kx.l1 HB rfl rfl ?_|refine Kx.la HB rfl ?_)|((with_reducible refine zac ?_);first|refine l1g HB rfl rfl rfl ?_|refine Kx.lag HB rfl rfl ?_))
        go_loopg [19] 1 (fun gh jx wr=>gh=1∧jx = .int .i64 0∧Hid (Jbx w wr t.g s1 ((t.ga,a1.cells t.g)::(b14,o.cells)::(b10,pp2 p0 p1)::(b9,z.cells)::(b6,cf c)::abx (T.eraseIdx ti)) (⟨A12,c12,34,12,qd,cat Pt.cells ds⟩::arw (T.eraseIdx ti)) F))
        case atStart=>exact ⟨rfl,rfl,HJn⟩
        case round =>
         clear HB HJn
         obtain ⟨-,rfl,HJn⟩:=hrel
         obtain ⟨t',e3,e4,e5,e6,hok,HB4⟩:=ze6 (t:=t) (i:=ti) (T:=T) (l:=[(b14,o.cells),(b10,pp2 p0 p1),(b9,z.cells),(b6,cf c)]) (r:=[⟨A12,c12,34,12,qd,cat Pt.cells ds⟩]) HJn.out HT3.out.2.2.1 HTi.out
         have HGt:Hid (GI f F ((j+1) * 8200) bal (T.set ti t') p0 p1 (ds.map (·.x))):=Lib.hid (by
          have:=HGn.out t' e5 e6
          exact (this.le (show j * 8200+8200≤(j+1) * 8200 by omega)))
         have HTn:Hid ((T.set ti t').length=k∧ptrs (T.set ti t')=P3∧(∀t∈(T.set ti t'),Jm.Ok t.s)∧(some ad5,P3)∈F∧Within z.fz F):=Lib.hid ⟨by rw [List.length_set];exact HT3.out.1,by rw [zdx HTi.out e3];exact HT3.out.2.1,hok,HT3.out.2.2.2⟩
         clear e3 e4 e5 e6 hok HJn HGn
         have HB:Hid (Bxs w wr ((b14,o.cells)::(b10,pp2 p0 p1)::(b9,z.cells)::(b6,cf c)::abx (T.set ti t')) (⟨A12,c12,34,12,qd,cat Pt.cells ds⟩::arw (T.set ti t')) F):=Lib.hid HB4
         clear HB4
         go_wp2_with (first|((with_reducible refine zah HB ?_);clear HB;intro w_ HB)|((with_reducible refine zab ?_);first|refine Kx.l1 HB rfl rfl ?_|refine Kx.la HB rfl ?_)|((with_reducible refine zac ?_);first|refine l1g HB rfl rfl rfl ?_|refine Kx.lag HB rfl rfl ?_))
         go_meet
         case rel=>exact ⟨T.set ti t',F,p0,p1,bal,rfl,hb0,by omega,HTn,HGt,HD,HB⟩
      | some q =>
        obtain ⟨y,lo⟩:=q
        obtain ⟨pn,hpn⟩ : ∃pn,ppro f p0 (toMx y lo)=pn:=⟨_,rfl⟩
        have hg2:=hgi.2 y lo rfl
        have hp2:=HPr.out y lo
        rw [hpn] at hg2 hp2
        have HGn:=Lib.hid hg2
        have HP1:=Lib.hid hp2
        clear hgi hg2 hp2 hpn HPr
        have hsubJ:∀bx w',Jbx w w' t.g s1 ((bx,mvs y lo)::(t.ga,a1.cells t.g)::(b14,o.cells)::(b10,pp2 p0 p1)::(b9,z.cells)::(b6,cf c)::abx (T.eraseIdx ti)) (⟨A12,c12,34,12,qd,cat Pt.cells ds⟩::arw (T.eraseIdx ti)) F→(w'.cell? (ad5.add ti)=some (.pointer (some ⟨t.ga,0,none⟩))∧w'.cell? ⟨b10,1,none⟩=some (.int .i64 p0.b)∧∀x v,z.cells[x]? = some v→w'.cell? (Addr.add ⟨b9,0,none⟩ x)=some v):=fun bx w' ⟨ok,_,_,_,_,q⟩=>⟨HPt.out _ _ _ q,q.cell (b:=b10) (cs:=pp2 p0 p1) (j:=1) (by repeat (first|exact List.Mem.head _|apply List.Mem.tail)) rfl,fun x v hx=>by have:=q.cell (b:=b9) (cs:=z.cells) (j:=x) (by repeat (first|exact List.Mem.head _|apply List.Mem.tail)) hx;rw [zpi];exact this⟩
        refine Kx.zfn (ι:=Nat) 13 (fun bx => .slice (some ⟨bx,0,none⟩) 1 1) (fun bx w'=>Jbx w w' t.g s1 ((bx,mvs y lo)::(t.ga,a1.cells t.g)::(b14,o.cells)::(b10,pp2 p0 p1)::(b9,z.cells)::(b6,cf c)::abx (T.eraseIdx ti)) (⟨A12,c12,34,12,qd,cat Pt.cells ds⟩::arw (T.eraseIdx ti)) F) 0 rfl (fun _=>Jbx.bears) (fun bx w' q=>hsubJ bx w' q) ?eHs0p (fun w1 hw=>(HCl.out w1 hw).mono fun e w' ⟨b,h1,h2⟩=>⟨b,h1,h2⟩) ?hHs0p
        case eHs0p=>(intro w hw;go_simp;try (first|(refine ⟨?_,?_⟩<;>with_reducible rfl)|with_reducible rfl))
        intro bx
        refine tkS 14 rfl (hsubJ bx) ?_ (hC:=Jbx.bears)
        refine zan (by kernel_rfl) ?_
        clear HB hsubB hsubJ HPt
        intro w_ HJ_
        have HJn:=Lib.hid HJ_
        obtain ⟨ok3,KA3,KC3,RA3,RC3,HB3⟩:=HJ_
        have HB:=Lib.hid HB3
        clear HB3 ok3 HCl HOk
        obtain ⟨gq,rfl⟩ : ∃q,q=gk:=⟨_,rfl⟩
        go_wp2_with (first|((with_reducible refine zah HB ?_);clear HB;intro w_ HB)|((with_reducible refine zab ?_);first|refine Kx.l1 HB rfl rfl ?_|refine Kx.la HB rfl ?_)|((with_reducible refine zac ?_);first|refine l1g HB rfl rfl rfl ?_|refine Kx.lag HB rfl rfl ?_))
        go_loopg [19] 2 (fun gh jx wr=>∃(px:Pp),Hid (Jbx w wr t.g s1 ((bx,mvs y lo)::(t.ga,a1.cells t.g)::(b14,o.cells)::(b10,pp2 px p1)::(b9,z.cells)::(b6,cf c)::abx (T.eraseIdx ti)) (⟨A12,c12,34,12,qd,cat Pt.cells ds⟩::arw (T.eraseIdx ti)) F)∧((gh=2∧jx = .int .i64 0∧px=p0)∨(gh=1∧jx = .int .i64 1∧px=pn)))
        case atStart=>exact ⟨p0,HJn,.inl ⟨rfl,rfl,rfl⟩⟩
        case round =>
         clear HB HJn
         obtain ⟨px,HJn,hph⟩:=hrel
         rcases hph with ⟨hg1,rfl,hpx⟩|⟨hg1,rfl,hpx⟩
         ·rw [hpx] at HJn
          clear hpx
          obtain ⟨ok3,KA3,KC3,RA3,RC3,HB3⟩:=HJn.out
          have HB:=Lib.hid HB3
          have HOk3:=Lib.hid ok3
          clear HB3 ok3 HJn
          go_upto_region 40 with (first|((with_reducible refine zah HB ?_);clear HB;intro w_ HB)|((with_reducible refine zab ?_);first|refine Kx.l1 HB rfl rfl ?_|refine Kx.la HB rfl ?_)|((with_reducible refine zac ?_);first|refine l1g HB rfl rfl rfl ?_|refine Kx.lag HB rfl rfl ?_))
          refine zau HB (fun i=>i == 11) (by kernel_rfl) ?_
          refine Kx.tk 0 rfl ?_
          refine Kx.tk 1 rfl ?_
          refine Kx.tk 2 rfl ?_
          first|refine xl1 3 rfl rfl rfl ?_|refine xla 3 rfl rfl ?_|refine Kx.xlo 3 rfl rfl HC.out ?_
          first|refine xl1 4 rfl rfl rfl ?_|refine xla 4 rfl rfl ?_|refine Kx.xlo 4 rfl rfl HC.out ?_
          refine Kx.tk 5 rfl ?_
          refine Kx.tk 6 rfl ?_
          refine Kx.tk 7 rfl ?_
          first|refine xl1 8 rfl rfl rfl ?_|refine xla 8 rfl rfl ?_|refine Kx.xlo 8 rfl rfl HC.out ?_
          refine zdb (i:=9) (v := ?v9_1) (f := ?g9_1) (args := ?s9_1) (a' := ?a9_1) (by first|exact za7|exact zb7|assumption) rfl (by kernel_rfl) (by kernel_rfl) (by kernel_rfl) (fun _ _ _ h=>h) (by kernel_rfl) ?c9_1 ?w9_1 ?y9_1 ?f9_1 ?r9_1
          case w9_1=>kernel_rfl
          case y9_1=>(intro W hW;go_simp;first|(refine ⟨?_,?_⟩<;>with_reducible rfl)|with_reducible rfl)
          case c9_1=>(intro W hW;refine Calls.mono (HP1.out W) ?_;rintro e w_ ⟨rfl,hb_⟩;refine ⟨?_,by first|exact hb_|exact hb_▸Below.refl _ _⟩;with_reducible rfl)
          case f9_1=>(go_simp;try with_reducible rfl)
          refine Kx.tk 10 rfl ?_
          first|(refine zal (i:=11) rfl (by kernel_rfl) (by kernel_rfl) (by rfl) rfl _ _ _ rfl _ rfl _ rfl _ (by rfl) (fun w=>(Tryz.sizeOf55 w)) (by rfl) ?_)|(refine zal (i:=11) rfl (by kernel_rfl) (by kernel_rfl) (by rfl) rfl _ _ _ rfl _ rfl _ rfl _ (by rfl) (fun w=>(Tryz.sizeOf24 w)) (by rfl) ?_)|(refine zal (i:=11) rfl (by kernel_rfl) (by kernel_rfl) (by rfl) rfl _ _ _ rfl _ rfl _ rfl _ (by rfl) (fun w=>(Tryz.sizeOf37 w)) (by rfl) ?_)|(refine zal (i:=11) rfl (by kernel_rfl) (by kernel_rfl) (by rfl) rfl _ _ _ rfl _ rfl _ rfl _ (by rfl) (fun w=>(Tryz.sizeOf3 w)) (by rfl) ?_)|(refine zal (i:=11) rfl (by kernel_rfl) (by kernel_rfl) (by rfl) rfl _ _ _ rfl _ rfl _ rfl _ (by rfl) (fun w=>(Tryz.sizeOf2 w)) (by rfl) ?_)|(refine zal (i:=11) rfl (by kernel_rfl) (by kernel_rfl) (by rfl) rfl _ _ _ rfl _ rfl _ rfl _ (by rfl) (fun w=>(Tryz.sizeOf32 w)) (by rfl) ?_)|(refine zar (i:=11) rfl (by kernel_rfl) (by kernel_rfl) (by rfl) rfl _ _ _ rfl _ rfl _ rfl _ _ (by simp [Kx.splice]<;>rfl) (by simp) (fun w=>(Tryz.sizeOf55 w)) (by rfl) ?_)|(refine zar (i:=11) rfl (by kernel_rfl) (by kernel_rfl) (by rfl) rfl _ _ _ rfl _ rfl _ rfl _ _ (by simp [Kx.splice]<;>rfl) (by simp) (fun w=>(Tryz.sizeOf24 w)) (by rfl) ?_)|(refine zar (i:=11) rfl (by kernel_rfl) (by kernel_rfl) (by rfl) rfl _ _ _ rfl _ rfl _ rfl _ _ (by simp [Kx.splice]<;>rfl) (by simp) (fun w=>(Tryz.sizeOf37 w)) (by rfl) ?_)|(refine zar (i:=11) rfl (by kernel_rfl) (by kernel_rfl) (by rfl) rfl _ _ _ rfl _ rfl _ rfl _ _ (by simp [Kx.splice]<;>rfl) (by simp) (fun w=>(Tryz.sizeOf3 w)) (by rfl) ?_)|(refine zar (i:=11) rfl (by kernel_rfl) (by kernel_rfl) (by rfl) rfl _ _ _ rfl _ rfl _ rfl _ _ (by simp [Kx.splice]<;>rfl) (by simp) (fun w=>(Tryz.sizeOf2 w)) (by rfl) ?_)|(refine zar (i:=11) rfl (by kernel_rfl) (by kernel_rfl) (by rfl) rfl _ _ _ rfl _ rfl _ rfl _ _ (by simp [Kx.splice]<;>rfl) (by simp) (fun w=>(Tryz.sizeOf32 w)) (by rfl) ?_)|(refine zaq (i:=11) rfl (by kernel_rfl) (by kernel_rfl) (by rfl) rfl _ _ _ rfl _ rfl rfl _ _ (by simp<;>rfl) (by simp) (fun w=>(Tryz.sizeOf55 w)) ?_)|(refine zaq (i:=11) rfl (by kernel_rfl) (by kernel_rfl) (by rfl) rfl _ _ _ rfl _ rfl rfl _ _ (by simp<;>rfl) (by simp) (fun w=>(Tryz.sizeOf24 w)) ?_)|(refine zaq (i:=11) rfl (by kernel_rfl) (by kernel_rfl) (by rfl) rfl _ _ _ rfl _ rfl rfl _ _ (by simp<;>rfl) (by simp) (fun w=>(Tryz.sizeOf37 w)) ?_)|(refine zaq (i:=11) rfl (by kernel_rfl) (by kernel_rfl) (by rfl) rfl _ _ _ rfl _ rfl rfl _ _ (by simp<;>rfl) (by simp) (fun w=>(Tryz.sizeOf3 w)) ?_)|(refine zaq (i:=11) rfl (by kernel_rfl) (by kernel_rfl) (by rfl) rfl _ _ _ rfl _ rfl rfl _ _ (by simp<;>rfl) (by simp) (fun w=>(Tryz.sizeOf2 w)) ?_)|(refine zaq (i:=11) rfl (by kernel_rfl) (by kernel_rfl) (by rfl) rfl _ _ _ rfl _ rfl rfl _ _ (by simp<;>rfl) (by simp) (fun w=>(Tryz.sizeOf32 w)) ?_)|(refine zao (i:=11) rfl (by kernel_rfl) (by kernel_rfl) (by rfl) rfl _ _ _ rfl _ rfl _ rfl rfl _ _ (by simp<;>rfl) (by simp) (fun w=>(Tryz.sizeOf55 w)) ?_)|(refine zao (i:=11) rfl (by kernel_rfl) (by kernel_rfl) (by rfl) rfl _ _ _ rfl _ rfl _ rfl rfl _ _ (by simp<;>rfl) (by simp) (fun w=>(Tryz.sizeOf24 w)) ?_)|(refine zao (i:=11) rfl (by kernel_rfl) (by kernel_rfl) (by rfl) rfl _ _ _ rfl _ rfl _ rfl rfl _ _ (by simp<;>rfl) (by simp) (fun w=>(Tryz.sizeOf37 w)) ?_)|(refine zao (i:=11) rfl (by kernel_rfl) (by kernel_rfl) (by rfl) rfl _ _ _ rfl _ rfl _ rfl rfl _ _ (by simp<;>rfl) (by simp) (fun w=>(Tryz.sizeOf3 w)) ?_)|(refine zao (i:=11) rfl (by kernel_rfl) (by kernel_rfl) (by rfl) rfl _ _ _ rfl _ rfl _ rfl rfl _ _ (by simp<;>rfl) (by simp) (fun w=>(Tryz.sizeOf2 w)) ?_)|(refine zao (i:=11) rfl (by kernel_rfl) (by kernel_rfl) (by rfl) rfl _ _ _ rfl _ rfl _ rfl rfl _ _ (by simp<;>rfl) (by simp) (fun w=>(Tryz.sizeOf32 w)) ?_)
          refine zan (by kernel_rfl) ?_
          clear HB
          intro w_ HB_
          have HB:=Lib.hid HB_
          clear HB_
          go_wp2_with (first|((with_reducible refine zah HB ?_);clear HB;intro w_ HB)|((with_reducible refine zab ?_);first|refine Kx.l1 HB rfl rfl ?_|refine Kx.la HB rfl ?_)|((with_reducible refine zac ?_);first|refine l1g HB rfl rfl rfl ?_|refine Kx.lag HB rfl rfl ?_))
          go_roundg 1
          case measure=>omega
          case rel=>exact ⟨pn,Lib.hid ⟨HOk3.out,_,_,_,_,HB.out⟩,.inr ⟨rfl,rfl,rfl⟩⟩
         ·rw [hpx] at HJn
          clear hpx
          obtain ⟨t',e3,e4,e5,e6,hok,HB4⟩:=ze6 (t:=t) (i:=ti) (T:=T) (l:=[(b14,o.cells),(b10,pp2 pn p1),(b9,z.cells),(b6,cf c)]) (r:=[⟨A12,c12,34,12,qd,cat Pt.cells ds⟩]) HJn.out.tail HT3.out.2.2.1 HTi.out
          have HGt:Hid (GI f F ((j+1) * 8200) bal (T.set ti t') pn p1 (ds.map (·.x))):=Lib.hid (by
           have:=HGn.out t' e5 e6
           exact (this.le (show j * 8200+8200≤(j+1) * 8200 by omega)))
          have HTn:Hid ((T.set ti t').length=k∧ptrs (T.set ti t')=P3∧(∀t∈(T.set ti t'),Jm.Ok t.s)∧(some ad5,P3)∈F∧Within z.fz F):=Lib.hid ⟨by rw [List.length_set];exact HT3.out.1,by rw [zdx HTi.out e3];exact HT3.out.2.1,hok,HT3.out.2.2.2⟩
          clear e3 e4 e5 e6 hok HJn HGn
          have HB:Hid (Bxs w wr ((b14,o.cells)::(b10,pp2 pn p1)::(b9,z.cells)::(b6,cf c)::abx (T.set ti t')) (⟨A12,c12,34,12,qd,cat Pt.cells ds⟩::arw (T.set ti t')) F):=Lib.hid HB4
          clear HB4
          go_wp2_with (first|((with_reducible refine zah HB ?_);clear HB;intro w_ HB)|((with_reducible refine zab ?_);first|refine Kx.l1 HB rfl rfl ?_|refine Kx.la HB rfl ?_)|((with_reducible refine zac ?_);first|refine l1g HB rfl rfl rfl ?_|refine Kx.lag HB rfl rfl ?_))
          go_meet
          case rel=>exact ⟨T.set ti t',F,pn,p1,bal,rfl,hb0,by omega,HTn,HGt,HD,HB⟩
     ·have hoks:=HG.out.swap.oks
      have hm1:MsOk (om 4 11 (ti:Int) p1.b z) (loOf z):=pm_ok HZ.out.2 ⟨by decide,by decide⟩ ⟨by decide,by decide⟩ htiI ⟨by decide,by decide⟩ ⟨by omega,by omega⟩
      have hmz:Within (mfz (om 4 11 (ti:Int) p1.b z) (loOf z)) F:=pm_in HT3.out.2.2.2.2
      obtain ⟨R,hR⟩ : ∃R,handle t.a t.s (om 4 11 (ti:Int) p1.b z) (loOf z) 0=R:=⟨_,rfl⟩
      have hgi:=HG.out.swap.asked hf3 hti5 HTi.out hm1 hmz rfl rfl rfl hR
      have HCl:Hid (∀W,Bxs w W ((t.g,jcs t.s KA KC RA RC)::(t.ga,t.a.cells t.g)::(b14,o.cells)::(b10,pp2 p0 p1)::(b9,z.cells)::(b6,cf c)::abx (T.eraseIdx ti)) (jrow KA KC t.s.kept::jrow RA RC t.s.rest::⟨A12,c12,34,12,qd,cat Pt.cells ds⟩::arw (T.eraseIdx ti)) F→Calls Tryz.prog 14 #[.pointer (some ⟨t.ga,0,none⟩),.agg (mvs (om 4 11 (ti:Int) p1.b z) (loOf z)).toArray,.int .i64 0] W fun e w'=>Outs w w' t.ga t.g ((b14,o.cells)::(b10,pp2 p0 p1)::(b9,z.cells)::(b6,cf c)::abx (T.eraseIdx ti)) (⟨A12,c12,34,12,qd,cat Pt.cells ds⟩::arw (T.eraseIdx ti)) F R e):=Lib.hid (fun W q=>by
       rw [←hR]
       exact zgj ⟨HOk.out,KA,KC,RA,RC,q⟩ hnb.inv.ok (om 4 11 (ti:Int) p1.b z) (loOf z) 0 hm1 hmz HT.out.1 HT.out.2 (Nat.le_trans HSz.out (by decide)) (.inl rfl) ⟨by decide,by decide⟩ HOf.out)
      have HQB:=Lib.hid (zhq 4 11 (ti:Int) p1.b z)
      have HPr:Hid (∀(y:Mm.Ms) (lo:Lo) W,Calls Tryz.prog 19 #[.agg p1.cells.toArray,.agg (cf c).toArray,.agg (mvs y lo).toArray] W fun e w'=>e = .returned (.agg (ppro f p1 (toMx y lo)).cells.toArray)∧Below W.heap.size W w'):=Lib.hid (fun y lo W=>by
       have:=ze7 p1 c (toMx y lo) W hoks.2.2.1
       rwa [HC.out.2.2.2.2.2.2] at this)
      have hip:(Tryz.prog.info? 34).map (·.size)=some 12:=by kernel_rfl
      clear hm1 hmz hR hnb hoks
      obtain ⟨a1,s1,o1⟩:=R
      go_upto_region 36 with (first|((with_reducible refine zah HB ?_);clear HB;intro w_ HB)|((with_reducible refine zab ?_);first|refine Kx.l1 HB rfl rfl ?_|refine Kx.la HB rfl ?_)|((with_reducible refine zac ?_);first|refine l1g HB rfl rfl rfl ?_|refine Kx.lag HB rfl rfl ?_))
      have hsubB:∀w',Bxs w w' ((t.g,jcs t.s KA KC RA RC)::(t.ga,t.a.cells t.g)::(b14,o.cells)::(b10,pp2 p0 p1)::(b9,z.cells)::(b6,cf c)::abx (T.eraseIdx ti)) (jrow KA KC t.s.kept::jrow RA RC t.s.rest::⟨A12,c12,34,12,qd,cat Pt.cells ds⟩::arw (T.eraseIdx ti)) F→(w'.cell? (ad5.add ti)=some (.pointer (some ⟨t.ga,0,none⟩))∧w'.cell? ⟨b10,31,none⟩=some (.int .i64 p1.b)∧∀x v,z.cells[x]? = some v→w'.cell? (Addr.add ⟨b9,0,none⟩ x)=some v):=fun w' q=>⟨HPt.out _ _ _ q,q.cell (b:=b10) (cs:=pp2 p0 p1) (j:=31) (by repeat (first|exact List.Mem.head _|apply List.Mem.tail)) rfl,fun x v hx=>by have:=q.cell (b:=b9) (cs:=z.cells) (j:=x) (by repeat (first|exact List.Mem.head _|apply List.Mem.tail)) hx;rw [zpi];exact this⟩
      refine Kx.zc5 (fun w'=>(w'.cell? (ad5.add ti)=some (.pointer (some ⟨t.ga,0,none⟩))∧w'.cell? ⟨b10,31,none⟩=some (.int .i64 p1.b)∧∀x v,z.cells[x]? = some v→w'.cell? (Addr.add ⟨b9,0,none⟩ x)=some v)) (fun w'=>Bxs w w' ((t.g,jcs t.s KA KC RA RC)::(t.ga,t.a.cells t.g)::(b14,o.cells)::(b10,pp2 p0 p1)::(b9,z.cells)::(b6,cf c)::abx (T.eraseIdx ti)) (jrow KA KC t.s.kept::jrow RA RC t.s.rest::⟨A12,c12,34,12,qd,cat Pt.cells ds⟩::arw (T.eraseIdx ti)) F) (fun i=>false) (by kernel_rfl) HB.out.drew ?_
      refine tkS 0 rfl hsubB ?_
      refine tkS 1 rfl hsubB ?_
      refine tkS 2 rfl hsubB ?_
      refine tkS 3 rfl hsubB ?_ (v:=.pointer (some ⟨t.ga,0,none⟩)) (hy:=fun w1 hC=>zbx (ad5.add ti) rfl (Tryz.isAgg27 _) hC.1)
      refine tkS 4 rfl hsubB ?_
      refine tkS 5 rfl hsubB ?_
      refine tkS 6 rfl hsubB ?_
      refine tkS 7 rfl hsubB ?_
      refine tkS 8 rfl hsubB ?_
      refine tkS 9 rfl hsubB ?_
      refine tkS 10 rfl hsubB ?_ (v:=.int .i64 p1.b) (hy:=fun w1 hC=>zbx ⟨b10,31,none⟩ rfl (Tryz.isAgg2 _) hC.2.1)
      refine tkS 11 rfl hsubB ?_ (v:=.agg z.cells.toArray) (hy:=fun w1 hC=>zc2 ⟨b9,0,none⟩ rfl z.cells (Tryz.isAgg34 _) hip hC.2.2)
      refine tkS 12 rfl hsubB ?_ (v:=.agg (mvs (om 4 11 (ti:Int) p1.b z) (loOf z)).toArray) (hy:=fun w1 hC=>zcr 37 _ rfl #[(0,.int .i64 4),(1,.int .i64 11),(2,.int .i64 (ti:Int)),(3,.int .i64 1),(4,.int .i64 p1.b),(10,.bool true),(11,.agg z.cells.toArray)] (by go_simp;try rfl) _ HQB.out)
      cases o1 with
      | none =>
        have hsubJ:∀w',Jbx w w' t.g s1 ((t.ga,a1.cells t.g)::(b14,o.cells)::(b10,pp2 p0 p1)::(b9,z.cells)::(b6,cf c)::abx (T.eraseIdx ti)) (⟨A12,c12,34,12,qd,cat Pt.cells ds⟩::arw (T.eraseIdx ti)) F→(w'.cell? (ad5.add ti)=some (.pointer (some ⟨t.ga,0,none⟩))∧w'.cell? ⟨b10,31,none⟩=some (.int .i64 p1.b)∧∀x v,z.cells[x]? = some v→w'.cell? (Addr.add ⟨b9,0,none⟩ x)=some v):=fun w' ⟨ok,_,_,_,_,q⟩=>⟨HPt.out _ _ _ q,q.cell (b:=b10) (cs:=pp2 p0 p1) (j:=31) (by repeat (first|exact List.Mem.head _|apply List.Mem.tail)) rfl,fun x v hx=>by have:=q.cell (b:=b9) (cs:=z.cells) (j:=x) (by repeat (first|exact List.Mem.head _|apply List.Mem.tail)) hx;rw [zpi];exact this⟩
        refine Kx.zfn (ι:=Unit) 13 (fun _ => .slice none 0 0) (fun _ w'=>Jbx w w' t.g s1 ((t.ga,a1.cells t.g)::(b14,o.cells)::(b10,pp2 p0 p1)::(b9,z.cells)::(b6,cf c)::abx (T.eraseIdx ti)) (⟨A12,c12,34,12,qd,cat Pt.cells ds⟩::arw (T.eraseIdx ti)) F) () rfl (fun _=>Jbx.bears) (fun _ w' q=>hsubJ w' q) ?eHn1p (fun w1 hw=>(HCl.out w1 hw).mono fun e w' q=>⟨(),q.1,q.2⟩) ?hHn1p
        case eHn1p=>(intro w hw;go_simp;try (first|(refine ⟨?_,?_⟩<;>with_reducible rfl)|with_reducible rfl))
        intro _
        refine tkS 14 rfl hsubJ ?_ (hC:=Jbx.bears)
        refine zan (by kernel_rfl) ?_
        clear HB hsubB hsubJ HPt
        intro w_ HJ_
        have HJn:=Lib.hid HJ_
        have HGn:=Lib.hid (hgi.1 rfl)
        obtain ⟨ok3,KA3,KC3,RA3,RC3,HB3⟩:=HJ_
        have HB:=Lib.hid HB3
        clear HB3 ok3 HCl hgi HOk HPr
        obtain ⟨gq,rfl⟩ : ∃q,q=gk:=⟨_,rfl⟩
        go_wp2_with (first|((with_reducible refine zah HB ?_);clear HB;intro w_ HB)|((with_reducible refine zab ?_);first|refine Kx.l1 HB rfl rfl ?_|refine Kx.la HB rfl ?_)|((with_reducible refine zac ?_);first|refine l1g HB rfl rfl rfl ?_|refine Kx.lag HB rfl rfl ?_))
        go_loopg [19] 1 (fun gh jx wr=>gh=1∧jx = .int .i64 0∧Hid (Jbx w wr t.g s1 ((t.ga,a1.cells t.g)::(b14,o.cells)::(b10,pp2 p0 p1)::(b9,z.cells)::(b6,cf c)::abx (T.eraseIdx ti)) (⟨A12,c12,34,12,qd,cat Pt.cells ds⟩::arw (T.eraseIdx ti)) F))
        case atStart=>exact ⟨rfl,rfl,HJn⟩
        case round =>
         clear HB HJn
         obtain ⟨-,rfl,HJn⟩:=hrel
         obtain ⟨t',e3,e4,e5,e6,hok,HB4⟩:=ze6 (t:=t) (i:=ti) (T:=T) (l:=[(b14,o.cells),(b10,pp2 p0 p1),(b9,z.cells),(b6,cf c)]) (r:=[⟨A12,c12,34,12,qd,cat Pt.cells ds⟩]) HJn.out HT3.out.2.2.1 HTi.out
         have HGt:Hid (GI f F ((j+1) * 8200) bal (T.set ti t') p0 p1 (ds.map (·.x))):=Lib.hid (by
          have:=HGn.out t' e5 e6
          exact (this.le (show j * 8200+8200≤(j+1) * 8200 by omega)).swap)
         have HTn:Hid ((T.set ti t').length=k∧ptrs (T.set ti t')=P3∧(∀t∈(T.set ti t'),Jm.Ok t.s)∧(some ad5,P3)∈F∧Within z.fz F):=Lib.hid ⟨by rw [List.length_set];exact HT3.out.1,by rw [zdx HTi.out e3];exact HT3.out.2.1,hok,HT3.out.2.2.2⟩
         clear e3 e4 e5 e6 hok HJn HGn
         have HB:Hid (Bxs w wr ((b14,o.cells)::(b10,pp2 p0 p1)::(b9,z.cells)::(b6,cf c)::abx (T.set ti t')) (⟨A12,c12,34,12,qd,cat Pt.cells ds⟩::arw (T.set ti t')) F):=Lib.hid HB4
         clear HB4
         go_wp2_with (first|((with_reducible refine zah HB ?_);clear HB;intro w_ HB)|((with_reducible refine zab ?_);first|refine Kx.l1 HB rfl rfl ?_|refine Kx.la HB rfl ?_)|((with_reducible refine zac ?_);first|refine l1g HB rfl rfl rfl ?_|refine Kx.lag HB rfl rfl ?_))
         go_meet
         case rel=>exact ⟨T.set ti t',F,p0,p1,bal,rfl,hb0,by omega,HTn,HGt,HD,HB⟩
      | some q =>
        obtain ⟨y,lo⟩:=q
        obtain ⟨pn,hpn⟩ : ∃pn,ppro f p1 (toMx y lo)=pn:=⟨_,rfl⟩
        have hg2:=hgi.2 y lo rfl
        have hp2:=HPr.out y lo
        rw [hpn] at hg2 hp2
        have HGn:=Lib.hid hg2
        have HP1:=Lib.hid hp2
        clear hgi hg2 hp2 hpn HPr
        have hsubJ:∀bx w',Jbx w w' t.g s1 ((bx,mvs y lo)::(t.ga,a1.cells t.g)::(b14,o.cells)::(b10,pp2 p0 p1)::(b9,z.cells)::(b6,cf c)::abx (T.eraseIdx ti)) (⟨A12,c12,34,12,qd,cat Pt.cells ds⟩::arw (T.eraseIdx ti)) F→(w'.cell? (ad5.add ti)=some (.pointer (some ⟨t.ga,0,none⟩))∧w'.cell? ⟨b10,31,none⟩=some (.int .i64 p1.b)∧∀x v,z.cells[x]? = some v→w'.cell? (Addr.add ⟨b9,0,none⟩ x)=some v):=fun bx w' ⟨ok,_,_,_,_,q⟩=>⟨HPt.out _ _ _ q,q.cell (b:=b10) (cs:=pp2 p0 p1) (j:=31) (by repeat (first|exact List.Mem.head _|apply List.Mem.tail)) rfl,fun x v hx=>by have:=q.cell (b:=b9) (cs:=z.cells) (j:=x) (by repeat (first|exact List.Mem.head _|apply List.Mem.tail)) hx;rw [zpi];exact this⟩
        refine Kx.zfn (ι:=Nat) 13 (fun bx => .slice (some ⟨bx,0,none⟩) 1 1) (fun bx w'=>Jbx w w' t.g s1 ((bx,mvs y lo)::(t.ga,a1.cells t.g)::(b14,o.cells)::(b10,pp2 p0 p1)::(b9,z.cells)::(b6,cf c)::abx (T.eraseIdx ti)) (⟨A12,c12,34,12,qd,cat Pt.cells ds⟩::arw (T.eraseIdx ti)) F) 0 rfl (fun _=>Jbx.bears) (fun bx w' q=>hsubJ bx w' q) ?eHs1p (fun w1 hw=>(HCl.out w1 hw).mono fun e w' ⟨b,h1,h2⟩=>⟨b,h1,h2⟩) ?hHs1p
        case eHs1p=>(intro w hw;go_simp;try (first|(refine ⟨?_,?_⟩<;>with_reducible rfl)|with_reducible rfl))
        intro bx
        refine tkS 14 rfl (hsubJ bx) ?_ (hC:=Jbx.bears)
        refine zan (by kernel_rfl) ?_
        clear HB hsubB hsubJ HPt
        intro w_ HJ_
        have HJn:=Lib.hid HJ_
        obtain ⟨ok3,KA3,KC3,RA3,RC3,HB3⟩:=HJ_
        have HB:=Lib.hid HB3
        clear HB3 ok3 HCl HOk
        obtain ⟨gq,rfl⟩ : ∃q,q=gk:=⟨_,rfl⟩
        go_wp2_with (first|((with_reducible refine zah HB ?_);clear HB;intro w_ HB)|((with_reducible refine zab ?_);first|refine Kx.l1 HB rfl rfl ?_|refine Kx.la HB rfl ?_)|((with_reducible refine zac ?_);first|refine l1g HB rfl rfl rfl ?_|refine Kx.lag HB rfl rfl ?_))
        go_loopg [19] 2 (fun gh jx wr=>∃(px:Pp),Hid (Jbx w wr t.g s1 ((bx,mvs y lo)::(t.ga,a1.cells t.g)::(b14,o.cells)::(b10,pp2 p0 px)::(b9,z.cells)::(b6,cf c)::abx (T.eraseIdx ti)) (⟨A12,c12,34,12,qd,cat Pt.cells ds⟩::arw (T.eraseIdx ti)) F)∧((gh=2∧jx = .int .i64 0∧px=p1)∨(gh=1∧jx = .int .i64 1∧px=pn)))
        case atStart=>exact ⟨p1,HJn,.inl ⟨rfl,rfl,rfl⟩⟩
        case round =>
         clear HB HJn
         obtain ⟨px,HJn,hph⟩:=hrel
         rcases hph with ⟨hg1,rfl,hpx⟩|⟨hg1,rfl,hpx⟩
         ·rw [hpx] at HJn
          clear hpx
          obtain ⟨ok3,KA3,KC3,RA3,RC3,HB3⟩:=HJn.out
          have HB:=Lib.hid HB3
          have HOk3:=Lib.hid ok3
          clear HB3 ok3 HJn
          go_upto_region 40 with (first|((with_reducible refine zah HB ?_);clear HB;intro w_ HB)|((with_reducible refine zab ?_);first|refine Kx.l1 HB rfl rfl ?_|refine Kx.la HB rfl ?_)|((with_reducible refine zac ?_);first|refine l1g HB rfl rfl rfl ?_|refine Kx.lag HB rfl rfl ?_))
          refine zau HB (fun i=>i == 11) (by kernel_rfl) ?_
          refine Kx.tk 0 rfl ?_
          refine Kx.tk 1 rfl ?_
          refine Kx.tk 2 rfl ?_
          first|refine xl1 3 rfl rfl rfl ?_|refine xla 3 rfl rfl ?_|refine Kx.xlo 3 rfl rfl HC.out ?_
          first|refine xl1 4 rfl rfl rfl ?_|refine xla 4 rfl rfl ?_|refine Kx.xlo 4 rfl rfl HC.out ?_
          refine Kx.tk 5 rfl ?_
          refine Kx.tk 6 rfl ?_
          refine Kx.tk 7 rfl ?_
          first|refine xl1 8 rfl rfl rfl ?_|refine xla 8 rfl rfl ?_|refine Kx.xlo 8 rfl rfl HC.out ?_
          refine zdb (i:=9) (v := ?v9_2) (f := ?g9_2) (args := ?s9_2) (a' := ?a9_2) (by first|exact za7|exact zb7|assumption) rfl (by kernel_rfl) (by kernel_rfl) (by kernel_rfl) (fun _ _ _ h=>h) (by kernel_rfl) ?c9_2 ?w9_2 ?y9_2 ?f9_2 ?r9_2
          case w9_2=>kernel_rfl
          case y9_2=>(intro W hW;go_simp;first|(refine ⟨?_,?_⟩<;>with_reducible rfl)|with_reducible rfl)
          case c9_2=>(intro W hW;refine Calls.mono (HP1.out W) ?_;rintro e w_ ⟨rfl,hb_⟩;refine ⟨?_,by first|exact hb_|exact hb_▸Below.refl _ _⟩;with_reducible rfl)
          case f9_2=>(go_simp;try with_reducible rfl)
          refine Kx.tk 10 rfl ?_
          first|(refine zal (i:=11) rfl (by kernel_rfl) (by kernel_rfl) (by rfl) rfl _ _ _ rfl _ rfl _ rfl _ (by rfl) (fun w=>(Tryz.sizeOf55 w)) (by rfl) ?_)|(refine zal (i:=11) rfl (by kernel_rfl) (by kernel_rfl) (by rfl) rfl _ _ _ rfl _ rfl _ rfl _ (by rfl) (fun w=>(Tryz.sizeOf24 w)) (by rfl) ?_)|(refine zal (i:=11) rfl (by kernel_rfl) (by kernel_rfl) (by rfl) rfl _ _ _ rfl _ rfl _ rfl _ (by rfl) (fun w=>(Tryz.sizeOf37 w)) (by rfl) ?_)|(refine zal (i:=11) rfl (by kernel_rfl) (by kernel_rfl) (by rfl) rfl _ _ _ rfl _ rfl _ rfl _ (by rfl) (fun w=>(Tryz.sizeOf3 w)) (by rfl) ?_)|(refine zal (i:=11) rfl (by kernel_rfl) (by kernel_rfl) (by rfl) rfl _ _ _ rfl _ rfl _ rfl _ (by rfl) (fun w=>(Tryz.sizeOf2 w)) (by rfl) ?_)|(refine zal (i:=11) rfl (by kernel_rfl) (by kernel_rfl) (by rfl) rfl _ _ _ rfl _ rfl _ rfl _ (by rfl) (fun w=>(Tryz.sizeOf32 w)) (by rfl) ?_)|(refine zar (i:=11) rfl (by kernel_rfl) (by kernel_rfl) (by rfl) rfl _ _ _ rfl _ rfl _ rfl _ _ (by simp [Kx.splice]<;>rfl) (by simp) (fun w=>(Tryz.sizeOf55 w)) (by rfl) ?_)|(refine zar (i:=11) rfl (by kernel_rfl) (by kernel_rfl) (by rfl) rfl _ _ _ rfl _ rfl _ rfl _ _ (by simp [Kx.splice]<;>rfl) (by simp) (fun w=>(Tryz.sizeOf24 w)) (by rfl) ?_)|(refine zar (i:=11) rfl (by kernel_rfl) (by kernel_rfl) (by rfl) rfl _ _ _ rfl _ rfl _ rfl _ _ (by simp [Kx.splice]<;>rfl) (by simp) (fun w=>(Tryz.sizeOf37 w)) (by rfl) ?_)|(refine zar (i:=11) rfl (by kernel_rfl) (by kernel_rfl) (by rfl) rfl _ _ _ rfl _ rfl _ rfl _ _ (by simp [Kx.splice]<;>rfl) (by simp) (fun w=>(Tryz.sizeOf3 w)) (by rfl) ?_)|(refine zar (i:=11) rfl (by kernel_rfl) (by kernel_rfl) (by rfl) rfl _ _ _ rfl _ rfl _ rfl _ _ (by simp [Kx.splice]<;>rfl) (by simp) (fun w=>(Tryz.sizeOf2 w)) (by rfl) ?_)|(refine zar (i:=11) rfl (by kernel_rfl) (by kernel_rfl) (by rfl) rfl _ _ _ rfl _ rfl _ rfl _ _ (by simp [Kx.splice]<;>rfl) (by simp) (fun w=>(Tryz.sizeOf32 w)) (by rfl) ?_)|(refine zaq (i:=11) rfl (by kernel_rfl) (by kernel_rfl) (by rfl) rfl _ _ _ rfl _ rfl rfl _ _ (by simp<;>rfl) (by simp) (fun w=>(Tryz.sizeOf55 w)) ?_)|(refine zaq (i:=11) rfl (by kernel_rfl) (by kernel_rfl) (by rfl) rfl _ _ _ rfl _ rfl rfl _ _ (by simp<;>rfl) (by simp) (fun w=>(Tryz.sizeOf24 w)) ?_)|(refine zaq (i:=11) rfl (by kernel_rfl) (by kernel_rfl) (by rfl) rfl _ _ _ rfl _ rfl rfl _ _ (by simp<;>rfl) (by simp) (fun w=>(Tryz.sizeOf37 w)) ?_)|(refine zaq (i:=11) rfl (by kernel_rfl) (by kernel_rfl) (by rfl) rfl _ _ _ rfl _ rfl rfl _ _ (by simp<;>rfl) (by simp) (fun w=>(Tryz.sizeOf3 w)) ?_)|(refine zaq (i:=11) rfl (by kernel_rfl) (by kernel_rfl) (by rfl) rfl _ _ _ rfl _ rfl rfl _ _ (by simp<;>rfl) (by simp) (fun w=>(Tryz.sizeOf2 w)) ?_)|(refine zaq (i:=11) rfl (by kernel_rfl) (by kernel_rfl) (by rfl) rfl _ _ _ rfl _ rfl rfl _ _ (by simp<;>rfl) (by simp) (fun w=>(Tryz.sizeOf32 w)) ?_)|(refine zao (i:=11) rfl (by kernel_rfl) (by kernel_rfl) (by rfl) rfl _ _ _ rfl _ rfl _ rfl rfl _ _ (by simp<;>rfl) (by simp) (fun w=>(Tryz.sizeOf55 w)) ?_)|(refine zao (i:=11) rfl (by kernel_rfl) (by kernel_rfl) (by rfl) rfl _ _ _ rfl _ rfl _ rfl rfl _ _ (by simp<;>rfl) (by simp) (fun w=>(Tryz.sizeOf24 w)) ?_)|(refine zao (i:=11) rfl (by kernel_rfl) (by kernel_rfl) (by rfl) rfl _ _ _ rfl _ rfl _ rfl rfl _ _ (by simp<;>rfl) (by simp) (fun w=>(Tryz.sizeOf37 w)) ?_)|(refine zao (i:=11) rfl (by kernel_rfl) (by kernel_rfl) (by rfl) rfl _ _ _ rfl _ rfl _ rfl rfl _ _ (by simp<;>rfl) (by simp) (fun w=>(Tryz.sizeOf3 w)) ?_)|(refine zao (i:=11) rfl (by kernel_rfl) (by kernel_rfl) (by rfl) rfl _ _ _ rfl _ rfl _ rfl rfl _ _ (by simp<;>rfl) (by simp) (fun w=>(Tryz.sizeOf2 w)) ?_)|(refine zao (i:=11) rfl (by kernel_rfl) (by kernel_rfl) (by rfl) rfl _ _ _ rfl _ rfl _ rfl rfl _ _ (by simp<;>rfl) (by simp) (fun w=>(Tryz.sizeOf32 w)) ?_)
          refine zan (by kernel_rfl) ?_
          clear HB
          intro w_ HB_
          have HB:=Lib.hid HB_
          clear HB_
          go_wp2_with (first|((with_reducible refine zah HB ?_);clear HB;intro w_ HB)|((with_reducible refine zab ?_);first|refine Kx.l1 HB rfl rfl ?_|refine Kx.la HB rfl ?_)|((with_reducible refine zac ?_);first|refine l1g HB rfl rfl rfl ?_|refine Kx.lag HB rfl rfl ?_))
          go_roundg 1
          case measure=>omega
          case rel=>exact ⟨pn,Lib.hid ⟨HOk3.out,_,_,_,_,HB.out⟩,.inr ⟨rfl,rfl,rfl⟩⟩
         ·rw [hpx] at HJn
          clear hpx
          obtain ⟨t',e3,e4,e5,e6,hok,HB4⟩:=ze6 (t:=t) (i:=ti) (T:=T) (l:=[(b14,o.cells),(b10,pp2 p0 pn),(b9,z.cells),(b6,cf c)]) (r:=[⟨A12,c12,34,12,qd,cat Pt.cells ds⟩]) HJn.out.tail HT3.out.2.2.1 HTi.out
          have HGt:Hid (GI f F ((j+1) * 8200) bal (T.set ti t') p0 pn (ds.map (·.x))):=Lib.hid (by
           have:=HGn.out t' e5 e6
           exact (this.le (show j * 8200+8200≤(j+1) * 8200 by omega)).swap)
          have HTn:Hid ((T.set ti t').length=k∧ptrs (T.set ti t')=P3∧(∀t∈(T.set ti t'),Jm.Ok t.s)∧(some ad5,P3)∈F∧Within z.fz F):=Lib.hid ⟨by rw [List.length_set];exact HT3.out.1,by rw [zdx HTi.out e3];exact HT3.out.2.1,hok,HT3.out.2.2.2⟩
          clear e3 e4 e5 e6 hok HJn HGn
          have HB:Hid (Bxs w wr ((b14,o.cells)::(b10,pp2 p0 pn)::(b9,z.cells)::(b6,cf c)::abx (T.set ti t')) (⟨A12,c12,34,12,qd,cat Pt.cells ds⟩::arw (T.set ti t')) F):=Lib.hid HB4
          clear HB4
          go_wp2_with (first|((with_reducible refine zah HB ?_);clear HB;intro w_ HB)|((with_reducible refine zab ?_);first|refine Kx.l1 HB rfl rfl ?_|refine Kx.la HB rfl ?_)|((with_reducible refine zac ?_);first|refine l1g HB rfl rfl rfl ?_|refine Kx.lag HB rfl rfl ?_))
          go_meet
          case rel=>exact ⟨T.set ti t',F,p0,pn,bal,rfl,hb0,by omega,HTn,HGt,HD,HB⟩
    ·have e1:(V == 1)=false:=beq_false_of_ne v1
     rcases hk01 with rfl|rfl
     ·have hph2:¬ p0.ph < 2:=fun z=>hco ⟨⟨v0,v1⟩,by rw [if_pos rfl];exact z⟩
      have e4:decide (p0.ph < 2)=false:=decide_eq_false hph2
      clear hco v0 v1
      have hoks:=HG.out.oks
      have hm1:MsOk (om 7 10 (ti:Int) p0.b p0.val.pt) (loOf p0.val.pt):=pm_ok hoks.1.fine ⟨by decide,by decide⟩ ⟨by decide,by decide⟩ htiI ⟨by decide,by decide⟩ ⟨by omega,by omega⟩
      have hmz:Within (mfz (om 7 10 (ti:Int) p0.b p0.val.pt) (loOf p0.val.pt)) F:=pm_in hoks.1.fz
      obtain ⟨R,hR⟩ : ∃R,handle t.a t.s (om 7 10 (ti:Int) p0.b p0.val.pt) (loOf p0.val.pt) 0=R:=⟨_,rfl⟩
      have hgi:=HG.out.voted hf3 hti5 HTi.out hm1 hmz rfl rfl rfl rfl hph2 hR
      have HCl:Hid (∀W,Bxs w W ((t.g,jcs t.s KA KC RA RC)::(t.ga,t.a.cells t.g)::(b14,o.cells)::(b10,pp2 p0 p1)::(b9,z.cells)::(b6,cf c)::abx (T.eraseIdx ti)) (jrow KA KC t.s.kept::jrow RA RC t.s.rest::⟨A12,c12,34,12,qd,cat Pt.cells ds⟩::arw (T.eraseIdx ti)) F→Calls Tryz.prog 14 #[.pointer (some ⟨t.ga,0,none⟩),.agg (mvs (om 7 10 (ti:Int) p0.b p0.val.pt) (loOf p0.val.pt)).toArray,.int .i64 0] W fun e w'=>Outs w w' t.ga t.g ((b14,o.cells)::(b10,pp2 p0 p1)::(b9,z.cells)::(b6,cf c)::abx (T.eraseIdx ti)) (⟨A12,c12,34,12,qd,cat Pt.cells ds⟩::arw (T.eraseIdx ti)) F R e):=Lib.hid (fun W q=>by
       rw [←hR]
       exact zgj ⟨HOk.out,KA,KC,RA,RC,q⟩ hnb.inv.ok (om 7 10 (ti:Int) p0.b p0.val.pt) (loOf p0.val.pt) 0 hm1 hmz HT.out.1 HT.out.2 (Nat.le_trans HSz.out (by decide)) (.inr rfl) ⟨by decide,by decide⟩ HOf.out)
      have HQB:=Lib.hid (zhq 7 10 (ti:Int) p0.b p0.val.pt)
      have HPr:Hid (∀(y:Mm.Ms) (lo:Lo) W,Calls Tryz.prog 20 #[.agg p0.cells.toArray,.agg (cf c).toArray,.agg (mvs y lo).toArray] W fun e w'=>e = .returned (.agg (pacc f p0 (toMx y lo)).cells.toArray)∧Below W.heap.size W w'):=Lib.hid (fun y lo W=>by
       have:=zhh p0 c (toMx y lo) W hoks.2.2.2.1
       rwa [HC.out.2.2.2.2.2.2] at this)
      have hip:(Tryz.prog.info? 34).map (·.size)=some 12:=by kernel_rfl
      clear hm1 hmz hR hnb hoks
      obtain ⟨a1,s1,o1⟩:=R
      go_upto_region 26 with (first|((with_reducible refine zah HB ?_);clear HB;intro w_ HB)|((with_reducible refine zab ?_);first|refine Kx.l1 HB rfl rfl ?_|refine Kx.la HB rfl ?_)|((with_reducible refine zac ?_);first|refine l1g HB rfl rfl rfl ?_|refine Kx.lag HB rfl rfl ?_))
      have hsubB:∀w',Bxs w w' ((t.g,jcs t.s KA KC RA RC)::(t.ga,t.a.cells t.g)::(b14,o.cells)::(b10,pp2 p0 p1)::(b9,z.cells)::(b6,cf c)::abx (T.eraseIdx ti)) (jrow KA KC t.s.kept::jrow RA RC t.s.rest::⟨A12,c12,34,12,qd,cat Pt.cells ds⟩::arw (T.eraseIdx ti)) F→(w'.cell? (ad5.add ti)=some (.pointer (some ⟨t.ga,0,none⟩))∧w'.cell? ⟨b10,1,none⟩=some (.int .i64 p0.b)∧∀x v,p0.val.cells[x]? = some v→w'.cell? (Addr.add ⟨b10,16,none⟩ x)=some v):=fun w' q=>⟨HPt.out _ _ _ q,q.cell (b:=b10) (cs:=pp2 p0 p1) (j:=1) (by repeat (first|exact List.Mem.head _|apply List.Mem.tail)) rfl,fun x v hx=>by rw [addrAt];exact q.cell (b:=b10) (cs:=pp2 p0 p1) (j:=16+x) (by repeat (first|exact List.Mem.head _|apply List.Mem.tail)) (zmo hx)⟩
      refine Kx.zc5 (fun w'=>(w'.cell? (ad5.add ti)=some (.pointer (some ⟨t.ga,0,none⟩))∧w'.cell? ⟨b10,1,none⟩=some (.int .i64 p0.b)∧∀x v,p0.val.cells[x]? = some v→w'.cell? (Addr.add ⟨b10,16,none⟩ x)=some v)) (fun w'=>Bxs w w' ((t.g,jcs t.s KA KC RA RC)::(t.ga,t.a.cells t.g)::(b14,o.cells)::(b10,pp2 p0 p1)::(b9,z.cells)::(b6,cf c)::abx (T.eraseIdx ti)) (jrow KA KC t.s.kept::jrow RA RC t.s.rest::⟨A12,c12,34,12,qd,cat Pt.cells ds⟩::arw (T.eraseIdx ti)) F) (fun i=>false) (by kernel_rfl) HB.out.drew ?_
      refine tkS 0 rfl hsubB ?_
      refine tkS 1 rfl hsubB ?_
      refine tkS 2 rfl hsubB ?_
      refine tkS 3 rfl hsubB ?_ (v:=.pointer (some ⟨t.ga,0,none⟩)) (hy:=fun w1 hC=>zbx (ad5.add ti) rfl (Tryz.isAgg27 _) hC.1)
      refine tkS 4 rfl hsubB ?_
      refine tkS 5 rfl hsubB ?_
      refine tkS 6 rfl hsubB ?_
      refine tkS 7 rfl hsubB ?_
      refine tkS 8 rfl hsubB ?_
      refine tkS 9 rfl hsubB ?_
      refine tkS 10 rfl hsubB ?_ (v:=.int .i64 p0.b) (hy:=fun w1 hC=>zbx ⟨b10,1,none⟩ rfl (Tryz.isAgg2 _) hC.2.1)
      refine tkS 11 rfl hsubB ?_
      refine tkS 12 rfl hsubB ?_
      refine tkS 13 rfl hsubB ?_
      refine tkS 14 rfl hsubB ?_ (v:=.agg p0.val.cells.toArray) (hy:=fun w1 hC=>zc2 ⟨b10,16,none⟩ rfl p0.val.cells (Tryz.isAgg34 _) hip hC.2.2)
      refine tkS 15 rfl hsubB ?_ (v:=.agg (mvs (om 7 10 (ti:Int) p0.b p0.val.pt) (loOf p0.val.pt)).toArray) (hy:=fun w1 hC=>zcr 37 _ rfl #[(0,.int .i64 7),(1,.int .i64 10),(2,.int .i64 (ti:Int)),(3,.int .i64 1),(4,.int .i64 p0.b),(10,.bool true),(11,.agg p0.val.cells.toArray)] (by go_simp;try rfl) _ HQB.out)
      cases o1 with
      | none =>
        have hsubJ:∀w',Jbx w w' t.g s1 ((t.ga,a1.cells t.g)::(b14,o.cells)::(b10,pp2 p0 p1)::(b9,z.cells)::(b6,cf c)::abx (T.eraseIdx ti)) (⟨A12,c12,34,12,qd,cat Pt.cells ds⟩::arw (T.eraseIdx ti)) F→(w'.cell? (ad5.add ti)=some (.pointer (some ⟨t.ga,0,none⟩))∧w'.cell? ⟨b10,1,none⟩=some (.int .i64 p0.b)∧∀x v,p0.val.cells[x]? = some v→w'.cell? (Addr.add ⟨b10,16,none⟩ x)=some v):=fun w' ⟨ok,_,_,_,_,q⟩=>⟨HPt.out _ _ _ q,q.cell (b:=b10) (cs:=pp2 p0 p1) (j:=1) (by repeat (first|exact List.Mem.head _|apply List.Mem.tail)) rfl,fun x v hx=>by rw [addrAt];exact q.cell (b:=b10) (cs:=pp2 p0 p1) (j:=16+x) (by repeat (first|exact List.Mem.head _|apply List.Mem.tail)) (zmo hx)⟩
        refine Kx.zfn (ι:=Unit) 16 (fun _ => .slice none 0 0) (fun _ w'=>Jbx w w' t.g s1 ((t.ga,a1.cells t.g)::(b14,o.cells)::(b10,pp2 p0 p1)::(b9,z.cells)::(b6,cf c)::abx (T.eraseIdx ti)) (⟨A12,c12,34,12,qd,cat Pt.cells ds⟩::arw (T.eraseIdx ti)) F) () rfl (fun _=>Jbx.bears) (fun _ w' q=>hsubJ w' q) ?eHn0a (fun w1 hw=>(HCl.out w1 hw).mono fun e w' q=>⟨(),q.1,q.2⟩) ?hHn0a
        case eHn0a=>(intro w hw;go_simp;try (first|(refine ⟨?_,?_⟩<;>with_reducible rfl)|with_reducible rfl))
        intro _
        refine tkS 17 rfl hsubJ ?_ (hC:=Jbx.bears)
        refine zan (by kernel_rfl) ?_
        clear HB hsubB hsubJ HPt
        intro w_ HJ_
        have HJn:=Lib.hid HJ_
        have HGn:=Lib.hid (hgi.1 rfl)
        obtain ⟨ok3,KA3,KC3,RA3,RC3,HB3⟩:=HJ_
        have HB:=Lib.hid HB3
        clear HB3 ok3 HCl hgi HOk HPr
        obtain ⟨gq,rfl⟩ : ∃q,q=gk:=⟨_,rfl⟩
        go_wp2_with (first|((with_reducible refine zah HB ?_);clear HB;intro w_ HB)|((with_reducible refine zab ?_);first|refine Kx.l1 HB rfl rfl ?_|refine Kx.la HB rfl ?_)|((with_reducible refine zac ?_);first|refine l1g HB rfl rfl rfl ?_|refine Kx.lag HB rfl rfl ?_))
        go_loopg [21] 1 (fun gh jx wr=>gh=1∧jx = .int .i64 0∧Hid (Jbx w wr t.g s1 ((t.ga,a1.cells t.g)::(b14,o.cells)::(b10,pp2 p0 p1)::(b9,z.cells)::(b6,cf c)::abx (T.eraseIdx ti)) (⟨A12,c12,34,12,qd,cat Pt.cells ds⟩::arw (T.eraseIdx ti)) F))
        case atStart=>exact ⟨rfl,rfl,HJn⟩
        case round =>
         clear HB HJn
         obtain ⟨-,rfl,HJn⟩:=hrel
         obtain ⟨t',e3,e4,e5,e6,hok,HB4⟩:=ze6 (t:=t) (i:=ti) (T:=T) (l:=[(b14,o.cells),(b10,pp2 p0 p1),(b9,z.cells),(b6,cf c)]) (r:=[⟨A12,c12,34,12,qd,cat Pt.cells ds⟩]) HJn.out HT3.out.2.2.1 HTi.out
         have HGt:Hid (GI f F ((j+1) * 8200) bal (T.set ti t') p0 p1 (ds.map (·.x))):=Lib.hid (by
          have:=HGn.out t' e5 e6
          exact (this.le (show j * 8200+8200≤(j+1) * 8200 by omega)))
         have HTn:Hid ((T.set ti t').length=k∧ptrs (T.set ti t')=P3∧(∀t∈(T.set ti t'),Jm.Ok t.s)∧(some ad5,P3)∈F∧Within z.fz F):=Lib.hid ⟨by rw [List.length_set];exact HT3.out.1,by rw [zdx HTi.out e3];exact HT3.out.2.1,hok,HT3.out.2.2.2⟩
         clear e3 e4 e5 e6 hok HJn HGn
         have HB:Hid (Bxs w wr ((b14,o.cells)::(b10,pp2 p0 p1)::(b9,z.cells)::(b6,cf c)::abx (T.set ti t')) (⟨A12,c12,34,12,qd,cat Pt.cells ds⟩::arw (T.set ti t')) F):=Lib.hid HB4
         clear HB4
         go_wp2_with (first|((with_reducible refine zah HB ?_);clear HB;intro w_ HB)|((with_reducible refine zab ?_);first|refine Kx.l1 HB rfl rfl ?_|refine Kx.la HB rfl ?_)|((with_reducible refine zac ?_);first|refine l1g HB rfl rfl rfl ?_|refine Kx.lag HB rfl rfl ?_))
         go_meet
         case rel=>exact ⟨T.set ti t',F,p0,p1,bal,rfl,hb0,by omega,HTn,HGt,HD,HB⟩
      | some q =>
        obtain ⟨y,lo⟩:=q
        obtain ⟨pn,hpn⟩ : ∃pn,pacc f p0 (toMx y lo)=pn:=⟨_,rfl⟩
        have hg2:=hgi.2 y lo rfl
        have hp2:=HPr.out y lo
        rw [hpn] at hg2 hp2
        have HGn:=Lib.hid hg2
        have HP1:=Lib.hid hp2
        clear hgi hg2 hp2 hpn HPr
        have hsubJ:∀bx w',Jbx w w' t.g s1 ((bx,mvs y lo)::(t.ga,a1.cells t.g)::(b14,o.cells)::(b10,pp2 p0 p1)::(b9,z.cells)::(b6,cf c)::abx (T.eraseIdx ti)) (⟨A12,c12,34,12,qd,cat Pt.cells ds⟩::arw (T.eraseIdx ti)) F→(w'.cell? (ad5.add ti)=some (.pointer (some ⟨t.ga,0,none⟩))∧w'.cell? ⟨b10,1,none⟩=some (.int .i64 p0.b)∧∀x v,p0.val.cells[x]? = some v→w'.cell? (Addr.add ⟨b10,16,none⟩ x)=some v):=fun bx w' ⟨ok,_,_,_,_,q⟩=>⟨HPt.out _ _ _ q,q.cell (b:=b10) (cs:=pp2 p0 p1) (j:=1) (by repeat (first|exact List.Mem.head _|apply List.Mem.tail)) rfl,fun x v hx=>by rw [addrAt];exact q.cell (b:=b10) (cs:=pp2 p0 p1) (j:=16+x) (by repeat (first|exact List.Mem.head _|apply List.Mem.tail)) (zmo hx)⟩
        refine Kx.zfn (ι:=Nat) 16 (fun bx => .slice (some ⟨bx,0,none⟩) 1 1) (fun bx w'=>Jbx w w' t.g s1 ((bx,mvs y lo)::(t.ga,a1.cells t.g)::(b14,o.cells)::(b10,pp2 p0 p1)::(b9,z.cells)::(b6,cf c)::abx (T.eraseIdx ti)) (⟨A12,c12,34,12,qd,cat Pt.cells ds⟩::arw (T.eraseIdx ti)) F) 0 rfl (fun _=>Jbx.bears) (fun bx w' q=>hsubJ bx w' q) ?eHs0a (fun w1 hw=>(HCl.out w1 hw).mono fun e w' ⟨b,h1,h2⟩=>⟨b,h1,h2⟩) ?hHs0a
        case eHs0a=>(intro w hw;go_simp;try (first|(refine ⟨?_,?_⟩<;>with_reducible rfl)|with_reducible rfl))
        intro bx
        refine tkS 17 rfl (hsubJ bx) ?_ (hC:=Jbx.bears)
        refine zan (by kernel_rfl) ?_
        clear HB hsubB hsubJ HPt
        intro w_ HJ_
        have HJn:=Lib.hid HJ_
        obtain ⟨ok3,KA3,KC3,RA3,RC3,HB3⟩:=HJ_
        have HB:=Lib.hid HB3
        clear HB3 ok3 HCl HOk
        obtain ⟨gq,rfl⟩ : ∃q,q=gk:=⟨_,rfl⟩
        go_wp2_with (first|((with_reducible refine zah HB ?_);clear HB;intro w_ HB)|((with_reducible refine zab ?_);first|refine Kx.l1 HB rfl rfl ?_|refine Kx.la HB rfl ?_)|((with_reducible refine zac ?_);first|refine l1g HB rfl rfl rfl ?_|refine Kx.lag HB rfl rfl ?_))
        go_loopg [21] 2 (fun gh jx wr=>∃(px:Pp),Hid (Jbx w wr t.g s1 ((bx,mvs y lo)::(t.ga,a1.cells t.g)::(b14,o.cells)::(b10,pp2 px p1)::(b9,z.cells)::(b6,cf c)::abx (T.eraseIdx ti)) (⟨A12,c12,34,12,qd,cat Pt.cells ds⟩::arw (T.eraseIdx ti)) F)∧((gh=2∧jx = .int .i64 0∧px=p0)∨(gh=1∧jx = .int .i64 1∧px=pn)))
        case atStart=>exact ⟨p0,HJn,.inl ⟨rfl,rfl,rfl⟩⟩
        case round =>
         clear HB HJn
         obtain ⟨px,HJn,hph⟩:=hrel
         rcases hph with ⟨hg1,rfl,hpx⟩|⟨hg1,rfl,hpx⟩
         ·rw [hpx] at HJn
          clear hpx
          obtain ⟨ok3,KA3,KC3,RA3,RC3,HB3⟩:=HJn.out
          have HB:=Lib.hid HB3
          have HOk3:=Lib.hid ok3
          clear HB3 ok3 HJn
          go_upto_region 30 with (first|((with_reducible refine zah HB ?_);clear HB;intro w_ HB)|((with_reducible refine zab ?_);first|refine Kx.l1 HB rfl rfl ?_|refine Kx.la HB rfl ?_)|((with_reducible refine zac ?_);first|refine l1g HB rfl rfl rfl ?_|refine Kx.lag HB rfl rfl ?_))
          refine zau HB (fun i=>i == 11) (by kernel_rfl) ?_
          refine Kx.tk 0 rfl ?_
          refine Kx.tk 1 rfl ?_
          refine Kx.tk 2 rfl ?_
          first|refine xl1 3 rfl rfl rfl ?_|refine xla 3 rfl rfl ?_|refine Kx.xlo 3 rfl rfl HC.out ?_
          first|refine xl1 4 rfl rfl rfl ?_|refine xla 4 rfl rfl ?_|refine Kx.xlo 4 rfl rfl HC.out ?_
          refine Kx.tk 5 rfl ?_
          refine Kx.tk 6 rfl ?_
          refine Kx.tk 7 rfl ?_
          first|refine xl1 8 rfl rfl rfl ?_|refine xla 8 rfl rfl ?_|refine Kx.xlo 8 rfl rfl HC.out ?_
          refine zdb (i:=9) (v := ?v9_3) (f := ?g9_3) (args := ?s9_3) (a' := ?a9_3) (by first|exact za7|exact zb7|assumption) rfl (by kernel_rfl) (by kernel_rfl) (by kernel_rfl) (fun _ _ _ h=>h) (by kernel_rfl) ?c9_3 ?w9_3 ?y9_3 ?f9_3 ?r9_3
          case w9_3=>kernel_rfl
          case y9_3=>(intro W hW;go_simp;first|(refine ⟨?_,?_⟩<;>with_reducible rfl)|with_reducible rfl)
          case c9_3=>(intro W hW;refine Calls.mono (HP1.out W) ?_;rintro e w_ ⟨rfl,hb_⟩;refine ⟨?_,by first|exact hb_|exact hb_▸Below.refl _ _⟩;with_reducible rfl)
          case f9_3=>(go_simp;try with_reducible rfl)
          refine Kx.tk 10 rfl ?_
          first|(refine zal (i:=11) rfl (by kernel_rfl) (by kernel_rfl) (by rfl) rfl _ _ _ rfl _ rfl _ rfl _ (by rfl) (fun w=>(Tryz.sizeOf55 w)) (by rfl) ?_)|(refine zal (i:=11) rfl (by kernel_rfl) (by kernel_rfl) (by rfl) rfl _ _ _ rfl _ rfl _ rfl _ (by rfl) (fun w=>(Tryz.sizeOf24 w)) (by rfl) ?_)|(refine zal (i:=11) rfl (by kernel_rfl) (by kernel_rfl) (by rfl) rfl _ _ _ rfl _ rfl _ rfl _ (by rfl) (fun w=>(Tryz.sizeOf37 w)) (by rfl) ?_)|(refine zal (i:=11) rfl (by kernel_rfl) (by kernel_rfl) (by rfl) rfl _ _ _ rfl _ rfl _ rfl _ (by rfl) (fun w=>(Tryz.sizeOf3 w)) (by rfl) ?_)|(refine zal (i:=11) rfl (by kernel_rfl) (by kernel_rfl) (by rfl) rfl _ _ _ rfl _ rfl _ rfl _ (by rfl) (fun w=>(Tryz.sizeOf2 w)) (by rfl) ?_)|(refine zal (i:=11) rfl (by kernel_rfl) (by kernel_rfl) (by rfl) rfl _ _ _ rfl _ rfl _ rfl _ (by rfl) (fun w=>(Tryz.sizeOf32 w)) (by rfl) ?_)|(refine zar (i:=11) rfl (by kernel_rfl) (by kernel_rfl) (by rfl) rfl _ _ _ rfl _ rfl _ rfl _ _ (by simp [Kx.splice]<;>rfl) (by simp) (fun w=>(Tryz.sizeOf55 w)) (by rfl) ?_)|(refine zar (i:=11) rfl (by kernel_rfl) (by kernel_rfl) (by rfl) rfl _ _ _ rfl _ rfl _ rfl _ _ (by simp [Kx.splice]<;>rfl) (by simp) (fun w=>(Tryz.sizeOf24 w)) (by rfl) ?_)|(refine zar (i:=11) rfl (by kernel_rfl) (by kernel_rfl) (by rfl) rfl _ _ _ rfl _ rfl _ rfl _ _ (by simp [Kx.splice]<;>rfl) (by simp) (fun w=>(Tryz.sizeOf37 w)) (by rfl) ?_)|(refine zar (i:=11) rfl (by kernel_rfl) (by kernel_rfl) (by rfl) rfl _ _ _ rfl _ rfl _ rfl _ _ (by simp [Kx.splice]<;>rfl) (by simp) (fun w=>(Tryz.sizeOf3 w)) (by rfl) ?_)|(refine zar (i:=11) rfl (by kernel_rfl) (by kernel_rfl) (by rfl) rfl _ _ _ rfl _ rfl _ rfl _ _ (by simp [Kx.splice]<;>rfl) (by simp) (fun w=>(Tryz.sizeOf2 w)) (by rfl) ?_)|(refine zar (i:=11) rfl (by kernel_rfl) (by kernel_rfl) (by rfl) rfl _ _ _ rfl _ rfl _ rfl _ _ (by simp [Kx.splice]<;>rfl) (by simp) (fun w=>(Tryz.sizeOf32 w)) (by rfl) ?_)|(refine zaq (i:=11) rfl (by kernel_rfl) (by kernel_rfl) (by rfl) rfl _ _ _ rfl _ rfl rfl _ _ (by simp<;>rfl) (by simp) (fun w=>(Tryz.sizeOf55 w)) ?_)|(refine zaq (i:=11) rfl (by kernel_rfl) (by kernel_rfl) (by rfl) rfl _ _ _ rfl _ rfl rfl _ _ (by simp<;>rfl) (by simp) (fun w=>(Tryz.sizeOf24 w)) ?_)|(refine zaq (i:=11) rfl (by kernel_rfl) (by kernel_rfl) (by rfl) rfl _ _ _ rfl _ rfl rfl _ _ (by simp<;>rfl) (by simp) (fun w=>(Tryz.sizeOf37 w)) ?_)|(refine zaq (i:=11) rfl (by kernel_rfl) (by kernel_rfl) (by rfl) rfl _ _ _ rfl _ rfl rfl _ _ (by simp<;>rfl) (by simp) (fun w=>(Tryz.sizeOf3 w)) ?_)|(refine zaq (i:=11) rfl (by kernel_rfl) (by kernel_rfl) (by rfl) rfl _ _ _ rfl _ rfl rfl _ _ (by simp<;>rfl) (by simp) (fun w=>(Tryz.sizeOf2 w)) ?_)|(refine zaq (i:=11) rfl (by kernel_rfl) (by kernel_rfl) (by rfl) rfl _ _ _ rfl _ rfl rfl _ _ (by simp<;>rfl) (by simp) (fun w=>(Tryz.sizeOf32 w)) ?_)|(refine zao (i:=11) rfl (by kernel_rfl) (by kernel_rfl) (by rfl) rfl _ _ _ rfl _ rfl _ rfl rfl _ _ (by simp<;>rfl) (by simp) (fun w=>(Tryz.sizeOf55 w)) ?_)|(refine zao (i:=11) rfl (by kernel_rfl) (by kernel_rfl) (by rfl) rfl _ _ _ rfl _ rfl _ rfl rfl _ _ (by simp<;>rfl) (by simp) (fun w=>(Tryz.sizeOf24 w)) ?_)|(refine zao (i:=11) rfl (by kernel_rfl) (by kernel_rfl) (by rfl) rfl _ _ _ rfl _ rfl _ rfl rfl _ _ (by simp<;>rfl) (by simp) (fun w=>(Tryz.sizeOf37 w)) ?_)|(refine zao (i:=11) rfl (by kernel_rfl) (by kernel_rfl) (by rfl) rfl _ _ _ rfl _ rfl _ rfl rfl _ _ (by simp<;>rfl) (by simp) (fun w=>(Tryz.sizeOf3 w)) ?_)|(refine zao (i:=11) rfl (by kernel_rfl) (by kernel_rfl) (by rfl) rfl _ _ _ rfl _ rfl _ rfl rfl _ _ (by simp<;>rfl) (by simp) (fun w=>(Tryz.sizeOf2 w)) ?_)|(refine zao (i:=11) rfl (by kernel_rfl) (by kernel_rfl) (by rfl) rfl _ _ _ rfl _ rfl _ rfl rfl _ _ (by simp<;>rfl) (by simp) (fun w=>(Tryz.sizeOf32 w)) ?_)
          refine zan (by kernel_rfl) ?_
          clear HB
          intro w_ HB_
          have HB:=Lib.hid HB_
          clear HB_
          go_wp2_with (first|((with_reducible refine zah HB ?_);clear HB;intro w_ HB)|((with_reducible refine zab ?_);first|refine Kx.l1 HB rfl rfl ?_|refine Kx.la HB rfl ?_)|((with_reducible refine zac ?_);first|refine l1g HB rfl rfl rfl ?_|refine Kx.lag HB rfl rfl ?_))
          go_roundg 1
          case measure=>omega
          case rel=>exact ⟨pn,Lib.hid ⟨HOk3.out,_,_,_,_,HB.out⟩,.inr ⟨rfl,rfl,rfl⟩⟩
         ·rw [hpx] at HJn
          clear hpx
          obtain ⟨t',e3,e4,e5,e6,hok,HB4⟩:=ze6 (t:=t) (i:=ti) (T:=T) (l:=[(b14,o.cells),(b10,pp2 pn p1),(b9,z.cells),(b6,cf c)]) (r:=[⟨A12,c12,34,12,qd,cat Pt.cells ds⟩]) HJn.out.tail HT3.out.2.2.1 HTi.out
          have HGt:Hid (GI f F ((j+1) * 8200) bal (T.set ti t') pn p1 (ds.map (·.x))):=Lib.hid (by
           have:=HGn.out t' e5 e6
           exact (this.le (show j * 8200+8200≤(j+1) * 8200 by omega)))
          have HTn:Hid ((T.set ti t').length=k∧ptrs (T.set ti t')=P3∧(∀t∈(T.set ti t'),Jm.Ok t.s)∧(some ad5,P3)∈F∧Within z.fz F):=Lib.hid ⟨by rw [List.length_set];exact HT3.out.1,by rw [zdx HTi.out e3];exact HT3.out.2.1,hok,HT3.out.2.2.2⟩
          clear e3 e4 e5 e6 hok HJn HGn
          have HB:Hid (Bxs w wr ((b14,o.cells)::(b10,pp2 pn p1)::(b9,z.cells)::(b6,cf c)::abx (T.set ti t')) (⟨A12,c12,34,12,qd,cat Pt.cells ds⟩::arw (T.set ti t')) F):=Lib.hid HB4
          clear HB4
          go_wp2_with (first|((with_reducible refine zah HB ?_);clear HB;intro w_ HB)|((with_reducible refine zab ?_);first|refine Kx.l1 HB rfl rfl ?_|refine Kx.la HB rfl ?_)|((with_reducible refine zac ?_);first|refine l1g HB rfl rfl rfl ?_|refine Kx.lag HB rfl rfl ?_))
          go_meet
          case rel=>exact ⟨T.set ti t',F,pn,p1,bal,rfl,hb0,by omega,HTn,HGt,HD,HB⟩
     ·have hph2:¬ p1.ph < 2:=fun z=>hco ⟨⟨v0,v1⟩,by rw [if_neg (by decide)];exact z⟩
      have e4:decide (p1.ph < 2)=false:=decide_eq_false hph2
      clear hco v0 v1
      have hoks:=HG.out.swap.oks
      have hm1:MsOk (om 7 11 (ti:Int) p1.b p1.val.pt) (loOf p1.val.pt):=pm_ok hoks.1.fine ⟨by decide,by decide⟩ ⟨by decide,by decide⟩ htiI ⟨by decide,by decide⟩ ⟨by omega,by omega⟩
      have hmz:Within (mfz (om 7 11 (ti:Int) p1.b p1.val.pt) (loOf p1.val.pt)) F:=pm_in hoks.1.fz
      obtain ⟨R,hR⟩ : ∃R,handle t.a t.s (om 7 11 (ti:Int) p1.b p1.val.pt) (loOf p1.val.pt) 0=R:=⟨_,rfl⟩
      have hgi:=HG.out.swap.voted hf3 hti5 HTi.out hm1 hmz rfl rfl rfl rfl hph2 hR
      have HCl:Hid (∀W,Bxs w W ((t.g,jcs t.s KA KC RA RC)::(t.ga,t.a.cells t.g)::(b14,o.cells)::(b10,pp2 p0 p1)::(b9,z.cells)::(b6,cf c)::abx (T.eraseIdx ti)) (jrow KA KC t.s.kept::jrow RA RC t.s.rest::⟨A12,c12,34,12,qd,cat Pt.cells ds⟩::arw (T.eraseIdx ti)) F→Calls Tryz.prog 14 #[.pointer (some ⟨t.ga,0,none⟩),.agg (mvs (om 7 11 (ti:Int) p1.b p1.val.pt) (loOf p1.val.pt)).toArray,.int .i64 0] W fun e w'=>Outs w w' t.ga t.g ((b14,o.cells)::(b10,pp2 p0 p1)::(b9,z.cells)::(b6,cf c)::abx (T.eraseIdx ti)) (⟨A12,c12,34,12,qd,cat Pt.cells ds⟩::arw (T.eraseIdx ti)) F R e):=Lib.hid (fun W q=>by
       rw [←hR]
       exact zgj ⟨HOk.out,KA,KC,RA,RC,q⟩ hnb.inv.ok (om 7 11 (ti:Int) p1.b p1.val.pt) (loOf p1.val.pt) 0 hm1 hmz HT.out.1 HT.out.2 (Nat.le_trans HSz.out (by decide)) (.inr rfl) ⟨by decide,by decide⟩ HOf.out)
      have HQB:=Lib.hid (zhq 7 11 (ti:Int) p1.b p1.val.pt)
      have HPr:Hid (∀(y:Mm.Ms) (lo:Lo) W,Calls Tryz.prog 20 #[.agg p1.cells.toArray,.agg (cf c).toArray,.agg (mvs y lo).toArray] W fun e w'=>e = .returned (.agg (pacc f p1 (toMx y lo)).cells.toArray)∧Below W.heap.size W w'):=Lib.hid (fun y lo W=>by
       have:=zhh p1 c (toMx y lo) W hoks.2.2.2.1
       rwa [HC.out.2.2.2.2.2.2] at this)
      have hip:(Tryz.prog.info? 34).map (·.size)=some 12:=by kernel_rfl
      clear hm1 hmz hR hnb hoks
      obtain ⟨a1,s1,o1⟩:=R
      go_upto_region 26 with (first|((with_reducible refine zah HB ?_);clear HB;intro w_ HB)|((with_reducible refine zab ?_);first|refine Kx.l1 HB rfl rfl ?_|refine Kx.la HB rfl ?_)|((with_reducible refine zac ?_);first|refine l1g HB rfl rfl rfl ?_|refine Kx.lag HB rfl rfl ?_))
      have hsubB:∀w',Bxs w w' ((t.g,jcs t.s KA KC RA RC)::(t.ga,t.a.cells t.g)::(b14,o.cells)::(b10,pp2 p0 p1)::(b9,z.cells)::(b6,cf c)::abx (T.eraseIdx ti)) (jrow KA KC t.s.kept::jrow RA RC t.s.rest::⟨A12,c12,34,12,qd,cat Pt.cells ds⟩::arw (T.eraseIdx ti)) F→(w'.cell? (ad5.add ti)=some (.pointer (some ⟨t.ga,0,none⟩))∧w'.cell? ⟨b10,31,none⟩=some (.int .i64 p1.b)∧∀x v,p1.val.cells[x]? = some v→w'.cell? (Addr.add ⟨b10,46,none⟩ x)=some v):=fun w' q=>⟨HPt.out _ _ _ q,q.cell (b:=b10) (cs:=pp2 p0 p1) (j:=31) (by repeat (first|exact List.Mem.head _|apply List.Mem.tail)) rfl,fun x v hx=>by rw [addrAt];exact q.cell (b:=b10) (cs:=pp2 p0 p1) (j:=46+x) (by repeat (first|exact List.Mem.head _|apply List.Mem.tail)) (zmn hx)⟩
      refine Kx.zc5 (fun w'=>(w'.cell? (ad5.add ti)=some (.pointer (some ⟨t.ga,0,none⟩))∧w'.cell? ⟨b10,31,none⟩=some (.int .i64 p1.b)∧∀x v,p1.val.cells[x]? = some v→w'.cell? (Addr.add ⟨b10,46,none⟩ x)=some v)) (fun w'=>Bxs w w' ((t.g,jcs t.s KA KC RA RC)::(t.ga,t.a.cells t.g)::(b14,o.cells)::(b10,pp2 p0 p1)::(b9,z.cells)::(b6,cf c)::abx (T.eraseIdx ti)) (jrow KA KC t.s.kept::jrow RA RC t.s.rest::⟨A12,c12,34,12,qd,cat Pt.cells ds⟩::arw (T.eraseIdx ti)) F) (fun i=>false) (by kernel_rfl) HB.out.drew ?_
      refine tkS 0 rfl hsubB ?_
      refine tkS 1 rfl hsubB ?_
      refine tkS 2 rfl hsubB ?_
      refine tkS 3 rfl hsubB ?_ (v:=.pointer (some ⟨t.ga,0,none⟩)) (hy:=fun w1 hC=>zbx (ad5.add ti) rfl (Tryz.isAgg27 _) hC.1)
      refine tkS 4 rfl hsubB ?_
      refine tkS 5 rfl hsubB ?_
      refine tkS 6 rfl hsubB ?_
      refine tkS 7 rfl hsubB ?_
      refine tkS 8 rfl hsubB ?_
      refine tkS 9 rfl hsubB ?_
      refine tkS 10 rfl hsubB ?_ (v:=.int .i64 p1.b) (hy:=fun w1 hC=>zbx ⟨b10,31,none⟩ rfl (Tryz.isAgg2 _) hC.2.1)
      refine tkS 11 rfl hsubB ?_
      refine tkS 12 rfl hsubB ?_
      refine tkS 13 rfl hsubB ?_
      refine tkS 14 rfl hsubB ?_ (v:=.agg p1.val.cells.toArray) (hy:=fun w1 hC=>zc2 ⟨b10,46,none⟩ rfl p1.val.cells (Tryz.isAgg34 _) hip hC.2.2)
      refine tkS 15 rfl hsubB ?_ (v:=.agg (mvs (om 7 11 (ti:Int) p1.b p1.val.pt) (loOf p1.val.pt)).toArray) (hy:=fun w1 hC=>zcr 37 _ rfl #[(0,.int .i64 7),(1,.int .i64 11),(2,.int .i64 (ti:Int)),(3,.int .i64 1),(4,.int .i64 p1.b),(10,.bool true),(11,.agg p1.val.cells.toArray)] (by go_simp;try rfl) _ HQB.out)
      cases o1 with
      | none =>
        have hsubJ:∀w',Jbx w w' t.g s1 ((t.ga,a1.cells t.g)::(b14,o.cells)::(b10,pp2 p0 p1)::(b9,z.cells)::(b6,cf c)::abx (T.eraseIdx ti)) (⟨A12,c12,34,12,qd,cat Pt.cells ds⟩::arw (T.eraseIdx ti)) F→(w'.cell? (ad5.add ti)=some (.pointer (some ⟨t.ga,0,none⟩))∧w'.cell? ⟨b10,31,none⟩=some (.int .i64 p1.b)∧∀x v,p1.val.cells[x]? = some v→w'.cell? (Addr.add ⟨b10,46,none⟩ x)=some v):=fun w' ⟨ok,_,_,_,_,q⟩=>⟨HPt.out _ _ _ q,q.cell (b:=b10) (cs:=pp2 p0 p1) (j:=31) (by repeat (first|exact List.Mem.head _|apply List.Mem.tail)) rfl,fun x v hx=>by rw [addrAt];exact q.cell (b:=b10) (cs:=pp2 p0 p1) (j:=46+x) (by repeat (first|exact List.Mem.head _|apply List.Mem.tail)) (zmn hx)⟩
        refine Kx.zfn (ι:=Unit) 16 (fun _ => .slice none 0 0) (fun _ w'=>Jbx w w' t.g s1 ((t.ga,a1.cells t.g)::(b14,o.cells)::(b10,pp2 p0 p1)::(b9,z.cells)::(b6,cf c)::abx (T.eraseIdx ti)) (⟨A12,c12,34,12,qd,cat Pt.cells ds⟩::arw (T.eraseIdx ti)) F) () rfl (fun _=>Jbx.bears) (fun _ w' q=>hsubJ w' q) ?eHn1a (fun w1 hw=>(HCl.out w1 hw).mono fun e w' q=>⟨(),q.1,q.2⟩) ?hHn1a
        case eHn1a=>(intro w hw;go_simp;try (first|(refine ⟨?_,?_⟩<;>with_reducible rfl)|with_reducible rfl))
        intro _
        refine tkS 17 rfl hsubJ ?_ (hC:=Jbx.bears)
        refine zan (by kernel_rfl) ?_
        clear HB hsubB hsubJ HPt
        intro w_ HJ_
        have HJn:=Lib.hid HJ_
        have HGn:=Lib.hid (hgi.1 rfl)
        obtain ⟨ok3,KA3,KC3,RA3,RC3,HB3⟩:=HJ_
        have HB:=Lib.hid HB3
        clear HB3 ok3 HCl hgi HOk HPr
        obtain ⟨gq,rfl⟩ : ∃q,q=gk:=⟨_,rfl⟩
        go_wp2_with (first|((with_reducible refine zah HB ?_);clear HB;intro w_ HB)|((with_reducible refine zab ?_);first|refine Kx.l1 HB rfl rfl ?_|refine Kx.la HB rfl ?_)|((with_reducible refine zac ?_);first|refine l1g HB rfl rfl rfl ?_|refine Kx.lag HB rfl rfl ?_))
        go_loopg [21] 1 (fun gh jx wr=>gh=1∧jx = .int .i64 0∧Hid (Jbx w wr t.g s1 ((t.ga,a1.cells t.g)::(b14,o.cells)::(b10,pp2 p0 p1)::(b9,z.cells)::(b6,cf c)::abx (T.eraseIdx ti)) (⟨A12,c12,34,12,qd,cat Pt.cells ds⟩::arw (T.eraseIdx ti)) F))
        case atStart=>exact ⟨rfl,rfl,HJn⟩
        case round =>
         clear HB HJn
         obtain ⟨-,rfl,HJn⟩:=hrel
         obtain ⟨t',e3,e4,e5,e6,hok,HB4⟩:=ze6 (t:=t) (i:=ti) (T:=T) (l:=[(b14,o.cells),(b10,pp2 p0 p1),(b9,z.cells),(b6,cf c)]) (r:=[⟨A12,c12,34,12,qd,cat Pt.cells ds⟩]) HJn.out HT3.out.2.2.1 HTi.out
         have HGt:Hid (GI f F ((j+1) * 8200) bal (T.set ti t') p0 p1 (ds.map (·.x))):=Lib.hid (by
          have:=HGn.out t' e5 e6
          exact (this.le (show j * 8200+8200≤(j+1) * 8200 by omega)).swap)
         have HTn:Hid ((T.set ti t').length=k∧ptrs (T.set ti t')=P3∧(∀t∈(T.set ti t'),Jm.Ok t.s)∧(some ad5,P3)∈F∧Within z.fz F):=Lib.hid ⟨by rw [List.length_set];exact HT3.out.1,by rw [zdx HTi.out e3];exact HT3.out.2.1,hok,HT3.out.2.2.2⟩
         clear e3 e4 e5 e6 hok HJn HGn
         have HB:Hid (Bxs w wr ((b14,o.cells)::(b10,pp2 p0 p1)::(b9,z.cells)::(b6,cf c)::abx (T.set ti t')) (⟨A12,c12,34,12,qd,cat Pt.cells ds⟩::arw (T.set ti t')) F):=Lib.hid HB4
         clear HB4
         go_wp2_with (first|((with_reducible refine zah HB ?_);clear HB;intro w_ HB)|((with_reducible refine zab ?_);first|refine Kx.l1 HB rfl rfl ?_|refine Kx.la HB rfl ?_)|((with_reducible refine zac ?_);first|refine l1g HB rfl rfl rfl ?_|refine Kx.lag HB rfl rfl ?_))
         go_meet
         case rel=>exact ⟨T.set ti t',F,p0,p1,bal,rfl,hb0,by omega,HTn,HGt,HD,HB⟩
      | some q =>
        obtain ⟨y,lo⟩:=q
        obtain ⟨pn,hpn⟩ : ∃pn,pacc f p1 (toMx y lo)=pn:=⟨_,rfl⟩
        have hg2:=hgi.2 y lo rfl
        have hp2:=HPr.out y lo
        rw [hpn] at hg2 hp2
        have HGn:=Lib.hid hg2
        have HP1:=Lib.hid hp2
        clear hgi hg2 hp2 hpn HPr
        have hsubJ:∀bx w',Jbx w w' t.g s1 ((bx,mvs y lo)::(t.ga,a1.cells t.g)::(b14,o.cells)::(b10,pp2 p0 p1)::(b9,z.cells)::(b6,cf c)::abx (T.eraseIdx ti)) (⟨A12,c12,34,12,qd,cat Pt.cells ds⟩::arw (T.eraseIdx ti)) F→(w'.cell? (ad5.add ti)=some (.pointer (some ⟨t.ga,0,none⟩))∧w'.cell? ⟨b10,31,none⟩=some (.int .i64 p1.b)∧∀x v,p1.val.cells[x]? = some v→w'.cell? (Addr.add ⟨b10,46,none⟩ x)=some v):=fun bx w' ⟨ok,_,_,_,_,q⟩=>⟨HPt.out _ _ _ q,q.cell (b:=b10) (cs:=pp2 p0 p1) (j:=31) (by repeat (first|exact List.Mem.head _|apply List.Mem.tail)) rfl,fun x v hx=>by rw [addrAt];exact q.cell (b:=b10) (cs:=pp2 p0 p1) (j:=46+x) (by repeat (first|exact List.Mem.head _|apply List.Mem.tail)) (zmn hx)⟩
        refine Kx.zfn (ι:=Nat) 16 (fun bx => .slice (some ⟨bx,0,none⟩) 1 1) (fun bx w'=>Jbx w w' t.g s1 ((bx,mvs y lo)::(t.ga,a1.cells t.g)::(b14,o.cells)::(b10,pp2 p0 p1)::(b9,z.cells)::(b6,cf c)::abx (T.eraseIdx ti)) (⟨A12,c12,34,12,qd,cat Pt.cells ds⟩::arw (T.eraseIdx ti)) F) 0 rfl (fun _=>Jbx.bears) (fun bx w' q=>hsubJ bx w' q) ?eHs1a (fun w1 hw=>(HCl.out w1 hw).mono fun e w' ⟨b,h1,h2⟩=>⟨b,h1,h2⟩) ?hHs1a
        case eHs1a=>(intro w hw;go_simp;try (first|(refine ⟨?_,?_⟩<;>with_reducible rfl)|with_reducible rfl))
        intro bx
        refine tkS 17 rfl (hsubJ bx) ?_ (hC:=Jbx.bears)
        refine zan (by kernel_rfl) ?_
        clear HB hsubB hsubJ HPt
        intro w_ HJ_
        have HJn:=Lib.hid HJ_
        obtain ⟨ok3,KA3,KC3,RA3,RC3,HB3⟩:=HJ_
        have HB:=Lib.hid HB3
        clear HB3 ok3 HCl HOk
        obtain ⟨gq,rfl⟩ : ∃q,q=gk:=⟨_,rfl⟩
        go_wp2_with (first|((with_reducible refine zah HB ?_);clear HB;intro w_ HB)|((with_reducible refine zab ?_);first|refine Kx.l1 HB rfl rfl ?_|refine Kx.la HB rfl ?_)|((with_reducible refine zac ?_);first|refine l1g HB rfl rfl rfl ?_|refine Kx.lag HB rfl rfl ?_))
        go_loopg [21] 2 (fun gh jx wr=>∃(px:Pp),Hid (Jbx w wr t.g s1 ((bx,mvs y lo)::(t.ga,a1.cells t.g)::(b14,o.cells)::(b10,pp2 p0 px)::(b9,z.cells)::(b6,cf c)::abx (T.eraseIdx ti)) (⟨A12,c12,34,12,qd,cat Pt.cells ds⟩::arw (T.eraseIdx ti)) F)∧((gh=2∧jx = .int .i64 0∧px=p1)∨(gh=1∧jx = .int .i64 1∧px=pn)))
        case atStart=>exact ⟨p1,HJn,.inl ⟨rfl,rfl,rfl⟩⟩
        case round =>
         clear HB HJn
         obtain ⟨px,HJn,hph⟩:=hrel
         rcases hph with ⟨hg1,rfl,hpx⟩|⟨hg1,rfl,hpx⟩
         ·rw [hpx] at HJn
          clear hpx
          obtain ⟨ok3,KA3,KC3,RA3,RC3,HB3⟩:=HJn.out
          have HB:=Lib.hid HB3
          have HOk3:=Lib.hid ok3
          clear HB3 ok3 HJn
          go_upto_region 30 with (first|((with_reducible refine zah HB ?_);clear HB;intro w_ HB)|((with_reducible refine zab ?_);first|refine Kx.l1 HB rfl rfl ?_|refine Kx.la HB rfl ?_)|((with_reducible refine zac ?_);first|refine l1g HB rfl rfl rfl ?_|refine Kx.lag HB rfl rfl ?_))
          refine zau HB (fun i=>i == 11) (by kernel_rfl) ?_
          refine Kx.tk 0 rfl ?_
          refine Kx.tk 1 rfl ?_
          refine Kx.tk 2 rfl ?_
          first|refine xl1 3 rfl rfl rfl ?_|refine xla 3 rfl rfl ?_|refine Kx.xlo 3 rfl rfl HC.out ?_
          first|refine xl1 4 rfl rfl rfl ?_|refine xla 4 rfl rfl ?_|refine Kx.xlo 4 rfl rfl HC.out ?_
          refine Kx.tk 5 rfl ?_
          refine Kx.tk 6 rfl ?_
          refine Kx.tk 7 rfl ?_
          first|refine xl1 8 rfl rfl rfl ?_|refine xla 8 rfl rfl ?_|refine Kx.xlo 8 rfl rfl HC.out ?_
          refine zdb (i:=9) (v := ?v9_4) (f := ?g9_4) (args := ?s9_4) (a' := ?a9_4) (by first|exact za7|exact zb7|assumption) rfl (by kernel_rfl) (by kernel_rfl) (by kernel_rfl) (fun _ _ _ h=>h) (by kernel_rfl) ?c9_4 ?w9_4 ?y9_4 ?f9_4 ?r9_4
          case w9_4=>kernel_rfl
          case y9_4=>(intro W hW;go_simp;first|(refine ⟨?_,?_⟩<;>with_reducible rfl)|with_reducible rfl)
          case c9_4=>(intro W hW;refine Calls.mono (HP1.out W) ?_;rintro e w_ ⟨rfl,hb_⟩;refine ⟨?_,by first|exact hb_|exact hb_▸Below.refl _ _⟩;with_reducible rfl)
          case f9_4=>(go_simp;try with_reducible rfl)
          refine Kx.tk 10 rfl ?_
          first|(refine zal (i:=11) rfl (by kernel_rfl) (by kernel_rfl) (by rfl) rfl _ _ _ rfl _ rfl _ rfl _ (by rfl) (fun w=>(Tryz.sizeOf55 w)) (by rfl) ?_)|(refine zal (i:=11) rfl (by kernel_rfl) (by kernel_rfl) (by rfl) rfl _ _ _ rfl _ rfl _ rfl _ (by rfl) (fun w=>(Tryz.sizeOf24 w)) (by rfl) ?_)|(refine zal (i:=11) rfl (by kernel_rfl) (by kernel_rfl) (by rfl) rfl _ _ _ rfl _ rfl _ rfl _ (by rfl) (fun w=>(Tryz.sizeOf37 w)) (by rfl) ?_)|(refine zal (i:=11) rfl (by kernel_rfl) (by kernel_rfl) (by rfl) rfl _ _ _ rfl _ rfl _ rfl _ (by rfl) (fun w=>(Tryz.sizeOf3 w)) (by rfl) ?_)|(refine zal (i:=11) rfl (by kernel_rfl) (by kernel_rfl) (by rfl) rfl _ _ _ rfl _ rfl _ rfl _ (by rfl) (fun w=>(Tryz.sizeOf2 w)) (by rfl) ?_)|(refine zal (i:=11) rfl (by kernel_rfl) (by kernel_rfl) (by rfl) rfl _ _ _ rfl _ rfl _ rfl _ (by rfl) (fun w=>(Tryz.sizeOf32 w)) (by rfl) ?_)|(refine zar (i:=11) rfl (by kernel_rfl) (by kernel_rfl) (by rfl) rfl _ _ _ rfl _ rfl _ rfl _ _ (by simp [Kx.splice]<;>rfl) (by simp) (fun w=>(Tryz.sizeOf55 w)) (by rfl) ?_)|(refine zar (i:=11) rfl (by kernel_rfl) (by kernel_rfl) (by rfl) rfl _ _ _ rfl _ rfl _ rfl _ _ (by simp [Kx.splice]<;>rfl) (by simp) (fun w=>(Tryz.sizeOf24 w)) (by rfl) ?_)|(refine zar (i:=11) rfl (by kernel_rfl) (by kernel_rfl) (by rfl) rfl _ _ _ rfl _ rfl _ rfl _ _ (by simp [Kx.splice]<;>rfl) (by simp) (fun w=>(Tryz.sizeOf37 w)) (by rfl) ?_)|(refine zar (i:=11) rfl (by kernel_rfl) (by kernel_rfl) (by rfl) rfl _ _ _ rfl _ rfl _ rfl _ _ (by simp [Kx.splice]<;>rfl) (by simp) (fun w=>(Tryz.sizeOf3 w)) (by rfl) ?_)|(refine zar (i:=11) rfl (by kernel_rfl) (by kernel_rfl) (by rfl) rfl _ _ _ rfl _ rfl _ rfl _ _ (by simp [Kx.splice]<;>rfl) (by simp) (fun w=>(Tryz.sizeOf2 w)) (by rfl) ?_)|(refine zar (i:=11) rfl (by kernel_rfl) (by kernel_rfl) (by rfl) rfl _ _ _ rfl _ rfl _ rfl _ _ (by simp [Kx.splice]<;>rfl) (by simp) (fun w=>(Tryz.sizeOf32 w)) (by rfl) ?_)|(refine zaq (i:=11) rfl (by kernel_rfl) (by kernel_rfl) (by rfl) rfl _ _ _ rfl _ rfl rfl _ _ (by simp<;>rfl) (by simp) (fun w=>(Tryz.sizeOf55 w)) ?_)|(refine zaq (i:=11) rfl (by kernel_rfl) (by kernel_rfl) (by rfl) rfl _ _ _ rfl _ rfl rfl _ _ (by simp<;>rfl) (by simp) (fun w=>(Tryz.sizeOf24 w)) ?_)|(refine zaq (i:=11) rfl (by kernel_rfl) (by kernel_rfl) (by rfl) rfl _ _ _ rfl _ rfl rfl _ _ (by simp<;>rfl) (by simp) (fun w=>(Tryz.sizeOf37 w)) ?_)|(refine zaq (i:=11) rfl (by kernel_rfl) (by kernel_rfl) (by rfl) rfl _ _ _ rfl _ rfl rfl _ _ (by simp<;>rfl) (by simp) (fun w=>(Tryz.sizeOf3 w)) ?_)|(refine zaq (i:=11) rfl (by kernel_rfl) (by kernel_rfl) (by rfl) rfl _ _ _ rfl _ rfl rfl _ _ (by simp<;>rfl) (by simp) (fun w=>(Tryz.sizeOf2 w)) ?_)|(refine zaq (i:=11) rfl (by kernel_rfl) (by kernel_rfl) (by rfl) rfl _ _ _ rfl _ rfl rfl _ _ (by simp<;>rfl) (by simp) (fun w=>(Tryz.sizeOf32 w)) ?_)|(refine zao (i:=11) rfl (by kernel_rfl) (by kernel_rfl) (by rfl) rfl _ _ _ rfl _ rfl _ rfl rfl _ _ (by simp<;>rfl) (by simp) (fun w=>(Tryz.sizeOf55 w)) ?_)|(refine zao (i:=11) rfl (by kernel_rfl) (by kernel_rfl) (by rfl) rfl _ _ _ rfl _ rfl _ rfl rfl _ _ (by simp<;>rfl) (by simp) (fun w=>(Tryz.sizeOf24 w)) ?_)|(refine zao (i:=11) rfl (by kernel_rfl) (by kernel_rfl) (by rfl) rfl _ _ _ rfl _ rfl _ rfl rfl _ _ (by simp<;>rfl) (by simp) (fun w=>(Tryz.sizeOf37 w)) ?_)|(refine zao (i:=11) rfl (by kernel_rfl) (by kernel_rfl) (by rfl) rfl _ _ _ rfl _ rfl _ rfl rfl _ _ (by simp<;>rfl) (by simp) (fun w=>(Tryz.sizeOf3 w)) ?_)|(refine zao (i:=11) rfl (by kernel_rfl) (by kernel_rfl) (by rfl) rfl _ _ _ rfl _ rfl _ rfl rfl _ _ (by simp<;>rfl) (by simp) (fun w=>(Tryz.sizeOf2 w)) ?_)|(refine zao (i:=11) rfl (by kernel_rfl) (by kernel_rfl) (by rfl) rfl _ _ _ rfl _ rfl _ rfl rfl _ _ (by simp<;>rfl) (by simp) (fun w=>(Tryz.sizeOf32 w)) ?_)
          refine zan (by kernel_rfl) ?_
          clear HB
          intro w_ HB_
          have HB:=Lib.hid HB_
          clear HB_
          go_wp2_with (first|((with_reducible refine zah HB ?_);clear HB;intro w_ HB)|((with_reducible refine zab ?_);first|refine Kx.l1 HB rfl rfl ?_|refine Kx.la HB rfl ?_)|((with_reducible refine zac ?_);first|refine l1g HB rfl rfl rfl ?_|refine Kx.lag HB rfl rfl ?_))
          go_roundg 1
          case measure=>omega
          case rel=>exact ⟨pn,Lib.hid ⟨HOk3.out,_,_,_,_,HB.out⟩,.inr ⟨rfl,rfl,rfl⟩⟩
         ·rw [hpx] at HJn
          clear hpx
          obtain ⟨t',e3,e4,e5,e6,hok,HB4⟩:=ze6 (t:=t) (i:=ti) (T:=T) (l:=[(b14,o.cells),(b10,pp2 p0 pn),(b9,z.cells),(b6,cf c)]) (r:=[⟨A12,c12,34,12,qd,cat Pt.cells ds⟩]) HJn.out.tail HT3.out.2.2.1 HTi.out
          have HGt:Hid (GI f F ((j+1) * 8200) bal (T.set ti t') p0 pn (ds.map (·.x))):=Lib.hid (by
           have:=HGn.out t' e5 e6
           exact (this.le (show j * 8200+8200≤(j+1) * 8200 by omega)).swap)
          have HTn:Hid ((T.set ti t').length=k∧ptrs (T.set ti t')=P3∧(∀t∈(T.set ti t'),Jm.Ok t.s)∧(some ad5,P3)∈F∧Within z.fz F):=Lib.hid ⟨by rw [List.length_set];exact HT3.out.1,by rw [zdx HTi.out e3];exact HT3.out.2.1,hok,HT3.out.2.2.2⟩
          clear e3 e4 e5 e6 hok HJn HGn
          have HB:Hid (Bxs w wr ((b14,o.cells)::(b10,pp2 p0 pn)::(b9,z.cells)::(b6,cf c)::abx (T.set ti t')) (⟨A12,c12,34,12,qd,cat Pt.cells ds⟩::arw (T.set ti t')) F):=Lib.hid HB4
          clear HB4
          go_wp2_with (first|((with_reducible refine zah HB ?_);clear HB;intro w_ HB)|((with_reducible refine zab ?_);first|refine Kx.l1 HB rfl rfl ?_|refine Kx.la HB rfl ?_)|((with_reducible refine zac ?_);first|refine l1g HB rfl rfl rfl ?_|refine Kx.lag HB rfl rfl ?_))
          go_meet
          case rel=>exact ⟨T.set ti t',F,p0,pn,bal,rfl,hb0,by omega,HTn,HGt,HD,HB⟩
   case rest =>
   clear HB HT3 HG HD HGw HPc hco hb0 hb1
   obtain ⟨T,F,p0,p1,bal,rfl,hb0,hb1,HT3,HG,HD,HB⟩:=hcut
   clear hti3 g3 g4 g5 g6
   rcases hk01 with rfl|rfl
   ·by_cases h3:p0.ph=3
    ·have e3:(p0.ph == 3)=true:=beq_iff_eq.2 h3
     have HGd:Hid (GI f F ((j+1) * 8200) bal T p0 p1 ((ds++[p0.val.pt]).map (·.x))):=Lib.hid (by rw [List.map_append];exact (HG.out.decide h3))
     have HDd:Hid ((ds++[p0.val.pt]).length=qd+1∧∀d∈ds++[p0.val.pt],d.Fine∧Within d.fz F∧d.n≤9000000∧d.n'≤9000000):=Lib.hid ⟨by rw [List.length_append,HD.out.1];rfl,fun d hd=>by
      rcases List.mem_append.1 hd with hd|hd
      ·exact HD.out.2 d hd
      ·rw [List.mem_singleton.1 hd]
       have ho:=HG.out.oks.1
       exact ⟨ho.fine,ho.fz,ho.few⟩⟩
     clear h3 HD HG
     go_wp2_with (first|(at_builtin;first|(refine Kx.zd7 HB rfl _ _ 57 rfl _ _ _ rfl 128 34 12 _ rfl Tryz.underlying57 (by kernel_rfl) (by decide) _ _ _ rfl _ (p0.val.cells) (HB.out.rd) (by (first|rfl|exact Pt.cells_one p0.val.pt|(unfold maxLen;omega)|omega)) (by (first|rfl|exact Pt.cells_one p0.val.pt|(unfold maxLen;omega)|omega)) (by (first|rfl|exact Pt.cells_one p0.val.pt|(unfold maxLen;omega)|omega)) (by (first|rfl|exact Pt.cells_one p0.val.pt|(unfold maxLen;omega)|omega)) ?_;clear HB;intro A_ c_ w_ hl_ hm_ HB;refine Kx.framed ?_ (by simp only [Act.put,List.setIfInBounds_toArray,List.set_cons_succ,List.set_cons_zero]<;>rfl))|(refine Kx.zdw HB rfl _ _ 57 rfl rfl 128 34 12 Tryz.underlying57 (by kernel_rfl) (by decide) _ _ _ rfl _ (p0.val.cells) (HB.out.rd) (by (first|rfl|exact Pt.cells_one p0.val.pt|(unfold maxLen;omega)|omega)) (by (first|rfl|exact Pt.cells_one p0.val.pt|(unfold maxLen;omega)|omega)) (by (first|rfl|exact Pt.cells_one p0.val.pt|(unfold maxLen;omega)|omega)) (by (first|rfl|exact Pt.cells_one p0.val.pt|(unfold maxLen;omega)|omega)) ?_;clear HB;intro A_ c_ w_ hl_ hm_ HB;refine Kx.framed ?_ (by simp only [Act.put,List.setIfInBounds_toArray,List.set_cons_succ,List.set_cons_zero]<;>rfl)))|((with_reducible refine zf2 ?_);refine zdr HB rfl 57 34 _ rfl 12 (p0.val.cells) rfl rfl _ Tryz.underlying57 (Tryz.sizeOf34 _) (Tryz.zeroValue34 _) (by decide) (by decide) ?_;clear HB;intro g_ w_ HB;refine Kx.framed ?_ (by simp only [Act.put,List.setIfInBounds_toArray,List.set_cons_succ,List.set_cons_zero]<;>rfl))|(first|((with_reducible refine zah HB ?_);clear HB;intro w_ HB)|((with_reducible refine zab ?_);first|refine Kx.l1 HB rfl rfl ?_|refine Kx.la HB rfl ?_)|((with_reducible refine zac ?_);first|refine l1g HB rfl rfl rfl ?_|refine Kx.lag HB rfl rfl ?_)))
     go_roundg (gk - 1)
     case measure=>omega
     case rel=>exact ⟨j+1,T,F,p0,p1,bal,ds++[p0.val.pt],_,_,qd+1,by omega,rfl,rfl,by go_num,hb0,by omega,by omega,HT3,HGd,HDd,by rw [zit,zrx];exact Lib.hid HB.out.tail.tail⟩
    ·have e3:(p0.ph == 3)=false:=beq_false_of_ne h3
     clear h3
     go_wp2_with (first|((with_reducible refine zah HB ?_);clear HB;intro w_ HB)|((with_reducible refine zab ?_);first|refine Kx.l1 HB rfl rfl ?_|refine Kx.la HB rfl ?_)|((with_reducible refine zac ?_);first|refine l1g HB rfl rfl rfl ?_|refine Kx.lag HB rfl rfl ?_))
     go_roundg (gk - 1)
     case measure=>omega
     case rel=>exact ⟨j+1,T,F,p0,p1,bal,ds,A12,c12,qd,by omega,rfl,rfl,by go_num,hb0,by omega,by omega,HT3,HG,HD,Lib.hid HB.out.tail⟩
   ·by_cases h3:p1.ph=3
    ·have e3:(p1.ph == 3)=true:=beq_iff_eq.2 h3
     have HGd:Hid (GI f F ((j+1) * 8200) bal T p0 p1 ((ds++[p1.val.pt]).map (·.x))):=Lib.hid (by rw [List.map_append];exact (HG.out.swap.decide h3).swap)
     have HDd:Hid ((ds++[p1.val.pt]).length=qd+1∧∀d∈ds++[p1.val.pt],d.Fine∧Within d.fz F∧d.n≤9000000∧d.n'≤9000000):=Lib.hid ⟨by rw [List.length_append,HD.out.1];rfl,fun d hd=>by
      rcases List.mem_append.1 hd with hd|hd
      ·exact HD.out.2 d hd
      ·rw [List.mem_singleton.1 hd]
       have ho:=HG.out.swap.oks.1
       exact ⟨ho.fine,ho.fz,ho.few⟩⟩
     clear h3 HD HG
     go_wp2_with (first|(at_builtin;first|(refine Kx.zd7 HB rfl _ _ 57 rfl _ _ _ rfl 128 34 12 _ rfl Tryz.underlying57 (by kernel_rfl) (by decide) _ _ _ rfl _ (p1.val.cells) (HB.out.rd) (by (first|rfl|exact Pt.cells_one p1.val.pt|(unfold maxLen;omega)|omega)) (by (first|rfl|exact Pt.cells_one p1.val.pt|(unfold maxLen;omega)|omega)) (by (first|rfl|exact Pt.cells_one p1.val.pt|(unfold maxLen;omega)|omega)) (by (first|rfl|exact Pt.cells_one p1.val.pt|(unfold maxLen;omega)|omega)) ?_;clear HB;intro A_ c_ w_ hl_ hm_ HB;refine Kx.framed ?_ (by simp only [Act.put,List.setIfInBounds_toArray,List.set_cons_succ,List.set_cons_zero]<;>rfl))|(refine Kx.zdw HB rfl _ _ 57 rfl rfl 128 34 12 Tryz.underlying57 (by kernel_rfl) (by decide) _ _ _ rfl _ (p1.val.cells) (HB.out.rd) (by (first|rfl|exact Pt.cells_one p1.val.pt|(unfold maxLen;omega)|omega)) (by (first|rfl|exact Pt.cells_one p1.val.pt|(unfold maxLen;omega)|omega)) (by (first|rfl|exact Pt.cells_one p1.val.pt|(unfold maxLen;omega)|omega)) (by (first|rfl|exact Pt.cells_one p1.val.pt|(unfold maxLen;omega)|omega)) ?_;clear HB;intro A_ c_ w_ hl_ hm_ HB;refine Kx.framed ?_ (by simp only [Act.put,List.setIfInBounds_toArray,List.set_cons_succ,List.set_cons_zero]<;>rfl)))|((with_reducible refine zf2 ?_);refine zdr HB rfl 57 34 _ rfl 12 (p1.val.cells) rfl rfl _ Tryz.underlying57 (Tryz.sizeOf34 _) (Tryz.zeroValue34 _) (by decide) (by decide) ?_;clear HB;intro g_ w_ HB;refine Kx.framed ?_ (by simp only [Act.put,List.setIfInBounds_toArray,List.set_cons_succ,List.set_cons_zero]<;>rfl))|(first|((with_reducible refine zah HB ?_);clear HB;intro w_ HB)|((with_reducible refine zab ?_);first|refine Kx.l1 HB rfl rfl ?_|refine Kx.la HB rfl ?_)|((with_reducible refine zac ?_);first|refine l1g HB rfl rfl rfl ?_|refine Kx.lag HB rfl rfl ?_)))
     go_roundg (gk - 1)
     case measure=>omega
     case rel=>exact ⟨j+1,T,F,p0,p1,bal,ds++[p1.val.pt],_,_,qd+1,by omega,rfl,rfl,by go_num,hb0,by omega,by omega,HT3,HGd,HDd,by rw [zit,zrx];exact Lib.hid HB.out.tail.tail⟩
    ·have e3:(p1.ph == 3)=false:=beq_false_of_ne h3
     clear h3
     go_wp2_with (first|((with_reducible refine zah HB ?_);clear HB;intro w_ HB)|((with_reducible refine zab ?_);first|refine Kx.l1 HB rfl rfl ?_|refine Kx.la HB rfl ?_)|((with_reducible refine zac ?_);first|refine l1g HB rfl rfl rfl ?_|refine Kx.lag HB rfl rfl ?_))
     go_roundg (gk - 1)
     case measure=>omega
     case rel=>exact ⟨j+1,T,F,p0,p1,bal,ds,A12,c12,qd,by omega,rfl,rfl,by go_num,hb0,by omega,by omega,HT3,HG,HD,Lib.hid HB.out.tail⟩
end Go.Proofs.YtponpgcpmlcdpaaGreatDoor
