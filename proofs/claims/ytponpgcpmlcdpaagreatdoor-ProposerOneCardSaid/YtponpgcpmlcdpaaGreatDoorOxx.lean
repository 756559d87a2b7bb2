import Derived.WalkKit
import Derived.Test.YtponpgcpmlcdpaaGreatDoorKitX
import Derived.Test.YtponpgcpmlcdpaaGreatDoorKX
import Derived.WalkMore
import Derived.Test.YtponpgcpmlcdpaaGreatDoorKpm
import Derived.Deep.CutBlock
import Derived.Deep.DeepCutAuto
set_option maxRecDepth 100000
namespace Go.Proofs.YtponpgcpmlcdpaaGreatDoor.Om
open Go
def cnt (m:Nat):Nat→Nat
 |0=>0
 |k+1=>cnt m k+(if m.testBit k=true then 1 else 0)
theorem cnt_le (m:Nat) (k:Nat):cnt m k≤k:=by
 induction k with
 |zero=>exact Nat.le_refl _
 |succ k ih=>unfold cnt;split<;>omega
theorem cnt_both (a b:Nat) (k:Nat):cnt a k+cnt b k≤k+cnt (a &&& b) k:=by
 induction k with
 |zero=>exact Nat.le_refl _
 | succ k ih =>
   unfold cnt
   rw [Nat.testBit_and]
   cases a.testBit k<;>cases b.testBit k<;>simp<;>omega
theorem cnt_some {m k:Nat} (h:0 < cnt m k):∃i,i < k∧m.testBit i=true:=by
 induction k with
 |zero=>cases h
 | succ k ih =>
   by_cases q:m.testBit k=true
   ·exact ⟨k,by omega,q⟩
   ·unfold cnt at h
    rw [if_neg q] at h
    obtain ⟨i,h1,h2⟩:=ih h
    exact ⟨i,by omega,h2⟩
def most (f m:Nat):Bool:=decide (f+1≤cnt m (2 * f+1))
theorem most_two {f a b:Nat} (ha:most f a=true) (hb:most f b=true):∃i,i < 2 * f+1∧(a &&& b).testBit i=true:=by
 unfold most at ha hb
 simp only [decide_eq_true_eq] at ha hb
 have:=cnt_both a b (2 * f+1)
 exact cnt_some (by omega)
end Go.Proofs.YtponpgcpmlcdpaaGreatDoor.Om

namespace Go.Proofs.YtponpgcpmlcdpaaGreatDoor
open Go.RowKit Go.Shelf Km Kx Kc
set_option linter.unusedVariables false
def Fc (c:Cf):Nat:=(if c.f < 0 then 0 else if 3 < c.f then 3 else c.f).toNat
theorem Fc_le (c:Cf):Fc c≤3:=by unfold Fc;split;(· omega);split<;>omega
theorem Fc_at {c:Cf} (h1:0≤c.f) (h2:c.f≤3):((Fc c:Nat):Int)=c.f:=by unfold Fc;rw [if_neg (by omega),if_neg (by omega)];omega
end Go.Proofs.YtponpgcpmlcdpaaGreatDoor

namespace Go.Proofs.YtponpgcpmlcdpaaGreatDoor
set_option linter.unusedVariables false
def ziu (x i:Int):Int:=((x.toNat ||| 2 ^ i.toNat:Nat):Int)
theorem zht {x k:Nat} (hx:x < 18446744073709551616) (hk:k < 64):x ||| 2 ^ k < 18446744073709551616:=by
 rw [show (18446744073709551616:Nat)=2 ^ 64 from rfl] at hx ⊢
 exact Nat.or_lt_two_pow hx (Nat.pow_lt_pow_right (by decide) hk)
end Go.Proofs.YtponpgcpmlcdpaaGreatDoor

namespace Go.Proofs.YtponpgcpmlcdpaaGreatDoor
open Go.RowKit Go.Shelf Km Kx Kc
set_option linter.unusedVariables false
def Ans (f:Nat) (p:Pp) (m:Mg) (kd:Int):Prop:=m.k=kd∧m.e=p.e∧m.b=p.b∧0≤m.f∧m.f≤2 * (f:Int)
instance (f:Nat) (p:Pp) (m:Mg) (kd:Int):Decidable (Ans f p m kd):=by unfold Ans;infer_instance
def zb8 (p:Pp) (m:Mg):Pp:=if m.has=true∧p.best < m.a then { p with pr:=ziu p.pr m.f,best:=m.a,val:=m.pl } else { p with pr:=ziu p.pr m.f }
def ppro (f:Nat) (p:Pp) (m:Mg):Pp :=
 if p.ph≠1∨¬ Ans f p m 5∨(m.has=true∧m.pl.e≠p.e) then p
 else if Om.most f (zb8 p m).pr.toNat=true then (if (zb8 p m).best=0 then { zb8 p m with ph:=2,val:=(zb8 p m).own } else { zb8 p m with ph:=2 }) else zb8 p m
def pacc (f:Nat) (p:Pp) (m:Mg):Pp :=
 if p.ph≠2∨¬ Ans f p m 8 then p
 else if Om.most f (ziu p.ac m.f).toNat=true then { p with ac:=ziu p.ac m.f,ph:=3 } else { p with ac:=ziu p.ac m.f }
def start (e b:Int) (own:Pq):Pp:=⟨e,b,1,{ own with e:=e },0,Pq.zero,0,0⟩
end Go.Proofs.YtponpgcpmlcdpaaGreatDoor

namespace Go.Proofs.YtponpgcpmlcdpaaGreatDoor
open Go.RowKit Go.Shelf Km Kx Kc
set_option linter.unusedVariables false
theorem Ans.from {f:Nat} {p:Pp} {m:Mg} {kd:Int} (h:Ans f p m kd) (hf:f≤3):∃k:Nat,m.f=(k:Int)∧k < 7:=⟨m.f.toNat,by have:=h.2.2.2.1;omega,by have:=h.2.2.2;omega⟩
theorem zgv {f:Nat} {p:Pp} {m:Mg} (h:p.ph≠1∨¬ Ans f p m 5∨(m.has=true∧m.pl.e≠p.e)):ppro f p m=p:=if_pos h
theorem zib {f:Nat} {p:Pp} {m:Mg} (h:¬ (p.ph≠1∨¬ Ans f p m 5∨(m.has=true∧m.pl.e≠p.e))):ppro f p m=if Om.most f (zb8 p m).pr.toNat=true then (if (zb8 p m).best=0 then { zb8 p m with ph:=2,val:=(zb8 p m).own } else { zb8 p m with ph:=2 }) else zb8 p m:=if_neg h
end Go.Proofs.YtponpgcpmlcdpaaGreatDoor

namespace Go.Proofs.YtponpgcpmlcdpaaGreatDoor
open Go.RowKit Go.Shelf Km Kx Kc
set_option linter.unusedVariables false
theorem ziy {f:Nat} {p:Pp} {m:Mg} (h:p.ph≠2∨¬ Ans f p m 8):pacc f p m=p:=if_pos h
theorem zhe {f:Nat} {p:Pp} {m:Mg} (h:¬ (p.ph≠2∨¬ Ans f p m 8)):pacc f p m=if Om.most f (ziu p.ac m.f).toNat=true then { p with ac:=ziu p.ac m.f,ph:=3 } else { p with ac:=ziu p.ac m.f }:=if_neg h
@[simp] theorem start_len (e b:Int) (own:Pq):(start e b own).cells.length=30:=rfl
theorem zme (e b:Int) (own:Pq):Tryz.prog.built 55 [(0,.int .i64 e),(1,.int .i64 b),(2,.int .i64 1),(3,.agg ({ own with e:=e }:Pq).cells.toArray)]=some (start e b own).cells.toArray:=by kernel_rfl
end Go.Proofs.YtponpgcpmlcdpaaGreatDoor

namespace Go.Proofs.YtponpgcpmlcdpaaGreatDoor
open Go.RowKit Go.Shelf Km Kx
set_option linter.unusedVariables false
theorem Ks.Sl.At.num {kd:IntKind} {w:World} {B:Nat} {s:Ks.Sl} (h:s.At kd w B) {k:Nat} (hk:k < s.n):∃ad,s.A=some ad∧ad.block < B∧w.cell? (ad.add k)=some (.int kd (s.xs.getD k 0)):=by
 obtain ⟨ad,e,h1,h2⟩:=h.rd k (.int kd (s.xs.getD k 0)) (by
  rw [List.getElem?_map,List.getD_eq_getElem?_getD,List.getElem?_eq_getElem (by rw [h.len];exact hk)]
  rfl)
 exact ⟨ad,e,h1,h2⟩
end Go.Proofs.YtponpgcpmlcdpaaGreatDoor

namespace Go.Proofs.YtponpgcpmlcdpaaGreatDoor
open Go.RowKit Go.Shelf Km Kx Kc
set_option linter.unusedVariables false
namespace Om
def o1 (x:Int):Int:=IntKind.u64.wrap (bits BinOp.and IntKind.u64 (x / 2) 6148914691236517205+bits BinOp.and IntKind.u64 x 6148914691236517205)
def o2 (x:Int):Int:=IntKind.u64.wrap (bits BinOp.and IntKind.u64 (x / 4) 3689348814741910323+bits BinOp.and IntKind.u64 x 3689348814741910323)
def o3 (x:Int):Int:=bits BinOp.and IntKind.u64 (IntKind.u64.wrap (x / 16+x)) 1085102592571150095
def o4 (x:Int):Int:=IntKind.u64.wrap (x+x / 256)
def o5 (x:Int):Int:=IntKind.u64.wrap (x+x / 65536)
def o6 (x:Int):Int:=IntKind.u64.wrap (x+x / 4294967296)
def o7 (x:Int):Int:=bits BinOp.and IntKind.i64 (wrap64 x) 127
def o (x:Int):Int:=o7 (o6 (o5 (o4 (o3 (o2 (o1 x))))))
theorem o_all:∀n:Fin 128,o ((n.val:Nat):Int)=((cnt n.val 7:Nat):Int):=by decide +kernel
theorem o_at {n:Nat} (h:n < 128):o (n:Int)=((cnt n 7:Nat):Int):=o_all ⟨n,h⟩
theorem zrv (m k:Nat):∀n,cnt (m &&& (2 ^ k - 1)) n=cnt m (min n k)
 |0=>by rw [Nat.zero_min];rfl
 | n + 1 => by
   have hb:(m &&& (2 ^ k - 1)).testBit n=(m.testBit n&&decide (n < k)):=by rw [Nat.testBit_and,Nat.testBit_two_pow_sub_one]
   unfold cnt
   rw [zrv m k n,hb]
   by_cases h:n < k
   ·rw [decide_eq_true h,Bool.and_true,show min (n+1) k=n+1 by omega,show min n k=n by omega];try rfl
   ·rw [decide_eq_false h,Bool.and_false,if_neg (by decide),Nat.add_zero,show min (n+1) k=k by omega,show min n k=k by omega]
    cases k<;>rfl
end Om
theorem zi9 (x:Int) (w:World):Calls Tryz.prog 70 #[.int .u64 x] w fun e w'=>e = .returned (.int .i64 (Om.o x))∧w=w':=by
 go_enter Tryz.func70,Tryz.ntmps70
 go_wp2
 go_ret
 exact ⟨rfl,rfl⟩
theorem zkv (n:Nat) (w:World) (h:n < 128):Calls Tryz.prog 70 #[.int .u64 (n:Int)] w fun e w'=>e = .returned (.int .i64 ((Om.cnt n 7:Nat):Int))∧Below w.heap.size w w' :=
 (zi9 (n:Int) w).mono fun e w' q=>⟨by rw [q.1,Om.o_at h],q.2▸Below.refl _ _⟩
theorem AAcc_any (c:Cf) (h:0≤c.f∧c.f≤3) (w:World):Calls Tryz.prog 74 #[.agg (cf c).toArray] w fun e w'=>e = .returned (.int .i64 (2 * c.f+1))∧Below w.heap.size w w':=by
 have HB:=Lib.hid (Bxs.start w)
 have hw1:IntKind.i64.wrap (2 * c.f)=2 * c.f:=by rw [IntKind.wrap_i64];omega
 have hw2:IntKind.i64.wrap (2 * c.f+1)=2 * c.f+1:=by rw [IntKind.wrap_i64];omega
 clear h
 go_enter Tryz.func74,Tryz.ntmps74
 go_wp2_with (first|((with_reducible refine zah HB ?_);clear HB;intro w_ HB)|((with_reducible refine zae ?_);first|(refine Kx.zcn HB rfl _ _ rfl _ rfl ?_;clear HB;intro b_ w_ HB;refine Kx.framed ?_ (by simp only [Act.put,List.setIfInBounds_toArray,List.set_cons_succ,List.set_cons_zero]<;>rfl))|(refine Kx.zcm HB rfl _ _ rfl _ rfl rfl ?_;clear HB;intro b_ w_ HB;refine Kx.framed ?_ (by simp only [Act.put,List.setIfInBounds_toArray,List.set_cons_succ,List.set_cons_zero]<;>rfl))|(refine Kx.zca HB rfl _ _ rfl _ rfl rfl ?_;clear HB;intro b_ w_ HB;refine Kx.framed ?_ (by simp only [Act.put,List.setIfInBounds_toArray,List.set_cons_succ,List.set_cons_zero]<;>rfl)))|((with_reducible refine zaa ?_);first|(refine Kx.zb5 HB rfl _ rfl _ (Tryz.zeroValue24 _) ?_;clear HB;intro b_ w_ HB;refine Kx.framed ?_ (by simp only [Act.put,List.setIfInBounds_toArray,List.set_cons_succ,List.set_cons_zero]<;>rfl))|(refine Kx.zbt HB rfl _ rfl _ (Tryz.zeroValue3 _) rfl ?_;clear HB;intro b_ w_ HB;refine Kx.framed ?_ (by simp only [Act.put,List.setIfInBounds_toArray,List.set_cons_succ,List.set_cons_zero]<;>rfl)))|((with_reducible refine zab ?_);first|(refine zai HB rfl _ _ rfl _ rfl _ (Tryz.isAgg3 _) _ rfl (Kx.framed ?_ (by simp only [Act.put,List.setIfInBounds_toArray,List.set_cons_succ,List.set_cons_zero]<;>rfl)))|(refine zam HB rfl _ _ rfl _ rfl _ _ (Tryz.isAgg24 _) (Tryz.sizeOf24 _) _ (by first|exact Kx.whole (by rfl)|(simp<;>rfl)) (by rfl) (Kx.framed ?_ (by simp only [Act.put,List.setIfInBounds_toArray,List.set_cons_succ,List.set_cons_zero]<;>rfl)))|(refine Kx.zc1 HB rfl _ _ rfl _ rfl (Tryz.isAgg3 _) _ HC.out (Kx.framed ?_ (by simp only [Act.put,List.setIfInBounds_toArray,List.set_cons_succ,List.set_cons_zero]<;>rfl))))|((with_reducible refine zac ?_);first|(refine zaj HB _ _ rfl _ rfl _ (Tryz.isAgg3 _) _ rfl rfl (Kx.framed ?_ (by simp only [Act.put,List.setIfInBounds_toArray,List.set_cons_succ,List.set_cons_zero]<;>rfl)))|(refine Kx.zb4 HB _ _ rfl _ rfl _ _ (Tryz.isAgg24 _) (Tryz.sizeOf24 _) _ (by first|exact Kx.whole (by rfl)|(simp<;>rfl)) (by rfl) rfl (Kx.framed ?_ (by simp only [Act.put,List.setIfInBounds_toArray,List.set_cons_succ,List.set_cons_zero]<;>rfl)))|(refine Kx.zcl HB _ _ rfl _ rfl (Tryz.isAgg3 _) _ HC.out rfl (Kx.framed ?_ (by simp only [Act.put,List.setIfInBounds_toArray,List.set_cons_succ,List.set_cons_zero]<;>rfl))))|((with_reducible refine zad ?_);first|(refine Kx.zay HB rfl rfl _ _ _ rfl _ rfl _ rfl _ (by rfl) (by simp<;>rfl) (by rfl) ?_;clear HB;intro w_ HB)|(refine Kx.za0 HB rfl rfl _ _ _ rfl _ rfl _ rfl _ _ (by simp [Kx.splice]<;>rfl) (by simp) (by simp<;>rfl) (by rfl) ?_;clear HB;intro w_ HB)|(refine Kx.zcg HB rfl rfl _ _ _ rfl _ rfl rfl _ _ (by simp<;>rfl) (by simp) (by simp<;>rfl) ?_;clear HB;intro w_ HB)|(refine Kx.zaz HB rfl rfl _ _ _ rfl _ rfl _ rfl rfl _ _ (by simp<;>rfl) (by simp) (by simp<;>rfl) ?_;clear HB;intro w_ HB)|(refine Kx.zaw HB rfl rfl _ _ _ rfl _ rfl _ rfl rfl _ _ (by simp<;>rfl) (by simp) (by simp<;>rfl) ?_;clear HB;intro w_ HB)))
 go_ret
 exact ⟨rfl,HB.out.below⟩
theorem zsa (c:Cf) (w:World):Calls Tryz.prog 69 #[.agg (cf c).toArray] w fun e w'=>e = .returned (.int .i64 ((2 * Fc c+1:Nat):Int))∧Below w.heap.size w w':=by
 have HB:=Lib.hid (Bxs.start w)
 obtain ⟨m1,hm1⟩ : ∃m1:Int,(if c.f < 0 then 0 else c.f)=m1:=⟨_,rfl⟩
 obtain ⟨m2,hm2⟩ : ∃m2:Int,(if 3 < m1 then 3 else m1)=m2:=⟨_,rfl⟩
 have HE:Hid (((2 * Fc c+1:Nat):Int)=2 * m2+1):=Lib.hid (by unfold Fc;rw [←hm2,←hm1];split<;>split<;>(try split)<;>omega)
 have HA:Hid (∀W,Calls Tryz.prog 74 #[.agg (cf { c with f:=m2 }).toArray] W fun e w'=>e = .returned (.int .i64 (2 * m2+1))∧Below W.heap.size W w'):=Lib.hid (fun W=>AAcc_any { c with f:=m2 } (by show 0≤m2∧m2≤3;rw [←hm2,←hm1];split<;>split<;>(try split)<;>omega) W)
 go_enter Tryz.func69,Tryz.ntmps69
 go_upto_region 1 with (first|((with_reducible refine zah HB ?_);clear HB;intro w_ HB)|((with_reducible refine zae (d:=some 1) ?_);first|(refine Kx.zcn HB rfl _ _ rfl _ rfl ?_;clear HB;intro b1 w_ HB;refine Kx.framed ?_ (by simp only [Act.put,List.setIfInBounds_toArray,List.set_cons_succ,List.set_cons_zero]<;>rfl))|(refine Kx.zcm HB rfl _ _ rfl _ rfl rfl ?_;clear HB;intro b1 w_ HB;refine Kx.framed ?_ (by simp only [Act.put,List.setIfInBounds_toArray,List.set_cons_succ,List.set_cons_zero]<;>rfl))|(refine Kx.zca HB rfl _ _ rfl _ rfl rfl ?_;clear HB;intro b1 w_ HB;refine Kx.framed ?_ (by simp only [Act.put,List.setIfInBounds_toArray,List.set_cons_succ,List.set_cons_zero]<;>rfl)))|((with_reducible refine zaa (d:=some 1) ?_);first|(refine Kx.zb5 HB rfl _ rfl _ (Tryz.zeroValue24 _) ?_;clear HB;intro b1 w_ HB;refine Kx.framed ?_ (by simp only [Act.put,List.setIfInBounds_toArray,List.set_cons_succ,List.set_cons_zero]<;>rfl))|(refine Kx.zbt HB rfl _ rfl _ (Tryz.zeroValue3 _) rfl ?_;clear HB;intro b1 w_ HB;refine Kx.framed ?_ (by simp only [Act.put,List.setIfInBounds_toArray,List.set_cons_succ,List.set_cons_zero]<;>rfl)))|((with_reducible refine zae ?_);first|(refine Kx.zcn HB rfl _ _ rfl _ rfl ?_;clear HB;intro b_ w_ HB;refine Kx.framed ?_ (by simp only [Act.put,List.setIfInBounds_toArray,List.set_cons_succ,List.set_cons_zero]<;>rfl))|(refine Kx.zcm HB rfl _ _ rfl _ rfl rfl ?_;clear HB;intro b_ w_ HB;refine Kx.framed ?_ (by simp only [Act.put,List.setIfInBounds_toArray,List.set_cons_succ,List.set_cons_zero]<;>rfl))|(refine Kx.zca HB rfl _ _ rfl _ rfl rfl ?_;clear HB;intro b_ w_ HB;refine Kx.framed ?_ (by simp only [Act.put,List.setIfInBounds_toArray,List.set_cons_succ,List.set_cons_zero]<;>rfl)))|((with_reducible refine zaa ?_);first|(refine Kx.zb5 HB rfl _ rfl _ (Tryz.zeroValue24 _) ?_;clear HB;intro b_ w_ HB;refine Kx.framed ?_ (by simp only [Act.put,List.setIfInBounds_toArray,List.set_cons_succ,List.set_cons_zero]<;>rfl))|(refine Kx.zbt HB rfl _ rfl _ (Tryz.zeroValue3 _) rfl ?_;clear HB;intro b_ w_ HB;refine Kx.framed ?_ (by simp only [Act.put,List.setIfInBounds_toArray,List.set_cons_succ,List.set_cons_zero]<;>rfl)))|((with_reducible refine zab ?_);first|(refine zai HB rfl _ _ rfl _ rfl _ (Tryz.isAgg3 _) _ rfl (Kx.framed ?_ (by simp only [Act.put,List.setIfInBounds_toArray,List.set_cons_succ,List.set_cons_zero]<;>rfl)))|(refine zam HB rfl _ _ rfl _ rfl _ _ (Tryz.isAgg24 _) (Tryz.sizeOf24 _) _ (by first|exact Kx.whole (by rfl)|(simp<;>rfl)) (by rfl) (Kx.framed ?_ (by simp only [Act.put,List.setIfInBounds_toArray,List.set_cons_succ,List.set_cons_zero]<;>rfl)))|(refine Kx.zc1 HB rfl _ _ rfl _ rfl (Tryz.isAgg3 _) _ HC.out (Kx.framed ?_ (by simp only [Act.put,List.setIfInBounds_toArray,List.set_cons_succ,List.set_cons_zero]<;>rfl))))|((with_reducible refine zac ?_);first|(refine zaj HB _ _ rfl _ rfl _ (Tryz.isAgg3 _) _ rfl rfl (Kx.framed ?_ (by simp only [Act.put,List.setIfInBounds_toArray,List.set_cons_succ,List.set_cons_zero]<;>rfl)))|(refine Kx.zb4 HB _ _ rfl _ rfl _ _ (Tryz.isAgg24 _) (Tryz.sizeOf24 _) _ (by first|exact Kx.whole (by rfl)|(simp<;>rfl)) (by rfl) rfl (Kx.framed ?_ (by simp only [Act.put,List.setIfInBounds_toArray,List.set_cons_succ,List.set_cons_zero]<;>rfl)))|(refine Kx.zcl HB _ _ rfl _ rfl (Tryz.isAgg3 _) _ HC.out rfl (Kx.framed ?_ (by simp only [Act.put,List.setIfInBounds_toArray,List.set_cons_succ,List.set_cons_zero]<;>rfl))))|((with_reducible refine zad ?_);first|(refine Kx.zay HB rfl rfl _ _ _ rfl _ rfl _ rfl _ (by rfl) (by simp<;>rfl) (by rfl) ?_;clear HB;intro w_ HB)|(refine Kx.za0 HB rfl rfl _ _ _ rfl _ rfl _ rfl _ _ (by simp [Kx.splice]<;>rfl) (by simp) (by simp<;>rfl) (by rfl) ?_;clear HB;intro w_ HB)|(refine Kx.zcg HB rfl rfl _ _ _ rfl _ rfl rfl _ _ (by simp<;>rfl) (by simp) (by simp<;>rfl) ?_;clear HB;intro w_ HB)|(refine Kx.zaz HB rfl rfl _ _ _ rfl _ rfl _ rfl rfl _ _ (by simp<;>rfl) (by simp) (by simp<;>rfl) ?_;clear HB;intro w_ HB)|(refine Kx.zaw HB rfl rfl _ _ _ rfl _ rfl _ rfl rfl _ _ (by simp<;>rfl) (by simp) (by simp<;>rfl) ?_;clear HB;intro w_ HB)))
 simp only [cf] at HB
 go_wp2_with (first|(go_at_call 74;refine Calls.mono (HA.out _) ?_;rintro e w_ ⟨rfl,hb_⟩;replace HB:=Lib.hid (HB.out.call hb_);clear hb_)|(first|((with_reducible refine zah HB ?_);clear HB;intro w_ HB)|((with_reducible refine zab ?_);first|(refine zai HB rfl _ _ rfl _ rfl _ (Tryz.isAgg3 _) _ rfl (Kx.framed ?_ (by simp only [Act.put,List.setIfInBounds_toArray,List.set_cons_succ,List.set_cons_zero]<;>rfl)))|(refine zam HB rfl _ _ rfl _ rfl _ _ (Tryz.isAgg24 _) (Tryz.sizeOf24 _) _ (by first|exact Kx.whole (by rfl)|(simp<;>rfl)) (by rfl) (Kx.framed ?_ (by simp only [Act.put,List.setIfInBounds_toArray,List.set_cons_succ,List.set_cons_zero]<;>rfl))))|((with_reducible refine zac ?_);first|(refine zaj HB _ _ rfl _ rfl _ (Tryz.isAgg3 _) _ rfl rfl (Kx.framed ?_ (by simp only [Act.put,List.setIfInBounds_toArray,List.set_cons_succ,List.set_cons_zero]<;>rfl))))|((with_reducible refine zad ?_);first|(refine Kx.za0 HB rfl rfl _ _ _ rfl _ rfl _ rfl _ _ (by simp [Kx.splice]<;>rfl) (by simp) (by simp<;>rfl) (by rfl) ?_;clear HB;intro w_ HB)|(refine Kx.zay HB rfl rfl _ _ _ rfl _ rfl _ rfl _ (by rfl) (by simp<;>rfl) (by rfl) ?_;clear HB;intro w_ HB)|(refine Kx.zaz HB rfl rfl _ _ _ rfl _ rfl _ rfl rfl _ _ (by simp<;>rfl) (by simp) (by simp<;>rfl) ?_;clear HB;intro w_ HB)|(refine Kx.zaw HB rfl rfl _ _ _ rfl _ rfl _ rfl rfl _ _ (by simp<;>rfl) (by simp) (by simp<;>rfl) ?_;clear HB;intro w_ HB))))
 go_ret
 exact ⟨by rw [HE.out];rfl,HB.out.below⟩
set_option maxHeartbeats 1000000 in
theorem zhu (c:Cf) (m:Nat) (w:World) (hm:m < 18446744073709551616):Calls Tryz.prog 42 #[.agg (cf c).toArray,.int .u64 (m:Int)] w fun e w'=>e = .returned (.bool (Om.most (Fc c) m))∧Below w.heap.size w w':=by
 have HB:=Lib.hid (Bxs.start w)
 have HF:Hid (∀W,Calls Tryz.prog 69 #[.agg (cf c).toArray] W fun e w'=>e = .returned (.int .i64 ((2 * Fc c+1:Nat):Int))∧Below W.heap.size W w'):=Lib.hid (fun W=>zsa c W)
 have hf3:Fc c≤3:=Fc_le c
 generalize Fc c=f at *
 have hk:2 * f+1≤7:=by omega
 have HM:Hid (Om.most f m=decide (((2 * f+1:Nat):Int) - (Om.cnt m (2 * f+1):Int) < (Om.cnt m (2 * f+1):Int))):=Lib.hid (by unfold Om.most;rw [decide_eq_decide];omega)
 have hcl:=Om.cnt_le m (2 * f+1)
 have hcc:Om.cnt (m &&& (2 ^ (2 * f+1) - 1)) 7=Om.cnt m (2 * f+1):=by rw [Om.zrv,show min 7 (2 * f+1)=2 * f+1 by omega]
 have h2:2 ^ (2 * f+1)≤128:=Nat.pow_le_pow_right (by decide) hk
 have h2p:=Nat.two_pow_pos (2 * f+1)
 have hx:m &&& (2 ^ (2 * f+1) - 1) < 128:=Nat.lt_of_le_of_lt Nat.and_le_right (by omega)
 have HO:Hid (∀W,Calls Tryz.prog 70 #[.int .u64 ((m &&& (2 ^ (2 * f+1) - 1):Nat):Int)] W fun e w'=>e = .returned (.int .i64 ((Om.cnt m (2 * f+1):Nat):Int))∧Below W.heap.size W w'):=Lib.hid (fun W=>by have:=zkv _ W hx;rwa [hcc] at this)
 have hs:IntKind.u64.wrap (2 ^ (2 * f+1))=((2 ^ (2 * f+1):Nat):Int):=by
  rw [IntKind.wrap_u64,show ((2:Int) ^ (2 * f+1))=((2 ^ (2 * f+1):Nat):Int) from (Int.natCast_pow 2 _).symm]
  omega
 have hs1:IntKind.u64.wrap (((2 ^ (2 * f+1):Nat):Int) - 1)=((2 ^ (2 * f+1) - 1:Nat):Int):=by rw [IntKind.wrap_u64];omega
 have hand:bits BinOp.and IntKind.u64 (m:Int) ((2 ^ (2 * f+1) - 1:Nat):Int)=((m &&& (2 ^ (2 * f+1) - 1):Nat):Int):=bits_and_u64_nat m _ hm (by omega)
 have hw3:IntKind.i64.wrap (((2 * f+1:Nat):Int) - (Om.cnt m (2 * f+1):Int))=((2 * f+1:Nat):Int) - (Om.cnt m (2 * f+1):Int):=by rw [IntKind.wrap_i64];omega
 generalize Om.cnt m (2 * f+1)=cn at *
 generalize 2 * f+1=k at *
 generalize m &&& (2 ^ k - 1)=x at *
 obtain ⟨z,hz⟩ : ∃z:Nat,2 ^ k=z:=⟨_,rfl⟩
 rw [hz] at hs hs1 hand
 obtain ⟨z1,hz1⟩ : ∃z1:Nat,z - 1=z1:=⟨_,rfl⟩
 rw [hz1] at hs1 hand
 have hk64:(k:Int)≤64:=by omega
 clear hz hz1 hcc h2 h2p hx hcl hf3 hm
 go_enter Tryz.func42,Tryz.ntmps42
 go_wp2_with (first|(go_at_call 69;refine Calls.mono (HF.out _) ?_;rintro e w_ ⟨rfl,hb_⟩;replace HB:=Lib.hid (HB.out.call hb_);clear hb_)|(go_at_call 70;refine Calls.mono (HO.out _) ?_;rintro e w_ ⟨rfl,hb_⟩;replace HB:=Lib.hid (HB.out.call hb_);clear hb_)|(first|((with_reducible refine zah HB ?_);clear HB;intro w_ HB)|((with_reducible refine zae ?_);first|(refine Kx.zcn HB rfl _ _ rfl _ rfl ?_;clear HB;intro b_ w_ HB;refine Kx.framed ?_ (by simp only [Act.put,List.setIfInBounds_toArray,List.set_cons_succ,List.set_cons_zero]<;>rfl))|(refine Kx.zcm HB rfl _ _ rfl _ rfl rfl ?_;clear HB;intro b_ w_ HB;refine Kx.framed ?_ (by simp only [Act.put,List.setIfInBounds_toArray,List.set_cons_succ,List.set_cons_zero]<;>rfl))|(refine Kx.zca HB rfl _ _ rfl _ rfl rfl ?_;clear HB;intro b_ w_ HB;refine Kx.framed ?_ (by simp only [Act.put,List.setIfInBounds_toArray,List.set_cons_succ,List.set_cons_zero]<;>rfl)))|((with_reducible refine zaa ?_);first|(refine Kx.zb5 HB rfl _ rfl _ (Tryz.zeroValue24 _) ?_;clear HB;intro b_ w_ HB;refine Kx.framed ?_ (by simp only [Act.put,List.setIfInBounds_toArray,List.set_cons_succ,List.set_cons_zero]<;>rfl))|(refine Kx.zbt HB rfl _ rfl _ (Tryz.zeroValue3 _) rfl ?_;clear HB;intro b_ w_ HB;refine Kx.framed ?_ (by simp only [Act.put,List.setIfInBounds_toArray,List.set_cons_succ,List.set_cons_zero]<;>rfl))|(refine Kx.zbt HB rfl _ rfl _ (Tryz.zeroValue32 _) rfl ?_;clear HB;intro b_ w_ HB;refine Kx.framed ?_ (by simp only [Act.put,List.setIfInBounds_toArray,List.set_cons_succ,List.set_cons_zero]<;>rfl)))|((with_reducible refine zab ?_);first|(refine zai HB rfl _ _ rfl _ rfl _ (Tryz.isAgg3 _) _ rfl (Kx.framed ?_ (by simp only [Act.put,List.setIfInBounds_toArray,List.set_cons_succ,List.set_cons_zero]<;>rfl)))|(refine zai HB rfl _ _ rfl _ rfl _ (Tryz.isAgg32 _) _ rfl (Kx.framed ?_ (by simp only [Act.put,List.setIfInBounds_toArray,List.set_cons_succ,List.set_cons_zero]<;>rfl)))|(refine zam HB rfl _ _ rfl _ rfl _ _ (Tryz.isAgg24 _) (Tryz.sizeOf24 _) _ (by first|exact Kx.whole (by rfl)|(simp<;>rfl)) (by rfl) (Kx.framed ?_ (by simp only [Act.put,List.setIfInBounds_toArray,List.set_cons_succ,List.set_cons_zero]<;>rfl)))|(refine Kx.zc1 HB rfl _ _ rfl _ rfl (Tryz.isAgg3 _) _ HC.out (Kx.framed ?_ (by simp only [Act.put,List.setIfInBounds_toArray,List.set_cons_succ,List.set_cons_zero]<;>rfl)))|(refine Kx.zc1 HB rfl _ _ rfl _ rfl (Tryz.isAgg32 _) _ HC.out (Kx.framed ?_ (by simp only [Act.put,List.setIfInBounds_toArray,List.set_cons_succ,List.set_cons_zero]<;>rfl))))|((with_reducible refine zac ?_);first|(refine zaj HB _ _ rfl _ rfl _ (Tryz.isAgg3 _) _ rfl rfl (Kx.framed ?_ (by simp only [Act.put,List.setIfInBounds_toArray,List.set_cons_succ,List.set_cons_zero]<;>rfl)))|(refine zaj HB _ _ rfl _ rfl _ (Tryz.isAgg32 _) _ rfl rfl (Kx.framed ?_ (by simp only [Act.put,List.setIfInBounds_toArray,List.set_cons_succ,List.set_cons_zero]<;>rfl)))|(refine Kx.zb4 HB _ _ rfl _ rfl _ _ (Tryz.isAgg24 _) (Tryz.sizeOf24 _) _ (by first|exact Kx.whole (by rfl)|(simp<;>rfl)) (by rfl) rfl (Kx.framed ?_ (by simp only [Act.put,List.setIfInBounds_toArray,List.set_cons_succ,List.set_cons_zero]<;>rfl)))|(refine Kx.zcl HB _ _ rfl _ rfl (Tryz.isAgg3 _) _ HC.out rfl (Kx.framed ?_ (by simp only [Act.put,List.setIfInBounds_toArray,List.set_cons_succ,List.set_cons_zero]<;>rfl)))|(refine Kx.zcl HB _ _ rfl _ rfl (Tryz.isAgg32 _) _ HC.out rfl (Kx.framed ?_ (by simp only [Act.put,List.setIfInBounds_toArray,List.set_cons_succ,List.set_cons_zero]<;>rfl))))|((with_reducible refine zad ?_);first|(refine Kx.zay HB rfl rfl _ _ _ rfl _ rfl _ rfl _ (by rfl) (by simp<;>rfl) (by rfl) ?_;clear HB;intro w_ HB)|(refine Kx.za0 HB rfl rfl _ _ _ rfl _ rfl _ rfl _ _ (by simp [Kx.splice]<;>rfl) (by simp) (by simp<;>rfl) (by rfl) ?_;clear HB;intro w_ HB)|(refine Kx.zcg HB rfl rfl _ _ _ rfl _ rfl rfl _ _ (by simp<;>rfl) (by simp) (by simp<;>rfl) ?_;clear HB;intro w_ HB)|(refine Kx.zaz HB rfl rfl _ _ _ rfl _ rfl _ rfl rfl _ _ (by simp<;>rfl) (by simp) (by simp<;>rfl) ?_;clear HB;intro w_ HB)|(refine Kx.zaw HB rfl rfl _ _ _ rfl _ rfl _ rfl rfl _ _ (by simp<;>rfl) (by simp) (by simp<;>rfl) ?_;clear HB;intro w_ HB))))
 go_ret
 exact ⟨by rw [HM.out];rfl,HB.out.below⟩
end Go.Proofs.YtponpgcpmlcdpaaGreatDoor
