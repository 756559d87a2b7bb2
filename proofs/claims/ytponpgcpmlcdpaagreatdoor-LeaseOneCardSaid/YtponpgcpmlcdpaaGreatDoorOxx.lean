import Derived.WalkKit
import Derived.Test.YtponpgcpmlcdpaaGreatDoorKitX
import Derived.Test.YtponpgcpmlcdpaaGreatDoorKX
import Derived.WalkMore
import Derived.Deep.CutBlock
import Derived.Deep.DeepCutAuto
import Derived.Test.YtponpgcpmlcdpaaGreatDoorKpm
import Derived.Test.YtponpgcpmlcdpaaGreatDoorAaw
import Derived.Test.YtponpgcpmlcdpaaGreatDoorPn
import Derived.Test.YtponpgcpmlcdpaaGreatDoorAvm
namespace Go.Proofs.YtponpgcpmlcdpaaGreatDoor.Om
open Go
def cnt (m:Nat):Nat → Nat
 | 0 => 0
 | k + 1 => cnt m k + (if m.testBit k = true then 1 else 0)
theorem cnt_le (m:Nat) (k:Nat):cnt m k ≤ k:=by
 induction k with
 | zero => exact Nat.le_refl _
 | succ k ih => unfold cnt; split <;> omega
def most (f m:Nat):Bool:=decide (f + 1 ≤ cnt m (2 * f + 1))
end Go.Proofs.YtponpgcpmlcdpaaGreatDoor.Om

namespace Go.Proofs.YtponpgcpmlcdpaaGreatDoor
open Go.RowKit Go.Shelf Km Kx Kc
set_option linter.unusedVariables false
def Fc (c:Cf):Nat:=(if c.f < 0 then 0 else if 3 < c.f then 3 else c.f).toNat
theorem Fc_le (c:Cf):Fc c ≤ 3:=by unfold Fc; split; (· omega); split <;> omega
end Go.Proofs.YtponpgcpmlcdpaaGreatDoor

namespace Go.Proofs.YtponpgcpmlcdpaaGreatDoor
open Go.RowKit Go.Shelf Km Kx Kc
set_option linter.unusedVariables false
namespace Om
def o1 (x:Int):Int:=IntKind.u64.wrap (bits BinOp.and IntKind.u64 (x / 2) 6148914691236517205 + bits BinOp.and IntKind.u64 x 6148914691236517205)
def o2 (x:Int):Int:=IntKind.u64.wrap (bits BinOp.and IntKind.u64 (x / 4) 3689348814741910323 + bits BinOp.and IntKind.u64 x 3689348814741910323)
def o3 (x:Int):Int:=bits BinOp.and IntKind.u64 (IntKind.u64.wrap (x / 16 + x)) 1085102592571150095
def o4 (x:Int):Int:=IntKind.u64.wrap (x + x / 256)
def o5 (x:Int):Int:=IntKind.u64.wrap (x + x / 65536)
def o6 (x:Int):Int:=IntKind.u64.wrap (x + x / 4294967296)
def o7 (x:Int):Int:=bits BinOp.and IntKind.i64 (wrap64 x) 127
def o (x:Int):Int:=o7 (o6 (o5 (o4 (o3 (o2 (o1 x))))))
set_option maxRecDepth 100000 in
theorem o_all:∀ n:Fin 128,o ((n.val:Nat):Int) = ((cnt n.val 7:Nat):Int):=by decide +kernel
theorem o_at {n:Nat} (h:n < 128):o (n:Int) = ((cnt n 7:Nat):Int):=o_all ⟨n,h⟩
theorem zrb (m k:Nat):∀ n,cnt (m &&& (2 ^ k - 1)) n = cnt m (min n k)
 | 0 => by rw [Nat.zero_min]; rfl
 | n + 1 => by
   have hb:(m &&& (2 ^ k - 1)).testBit n = (m.testBit n && decide (n < k)):=by rw [Nat.testBit_and,Nat.testBit_two_pow_sub_one]
   unfold cnt
   rw [zrb m k n,hb]
   by_cases h:n < k
   ·rw [decide_eq_true h,Bool.and_true,show min (n + 1) k = n + 1 by omega,show min n k = n by omega]; try rfl
   ·rw [decide_eq_false h,Bool.and_false,if_neg (by decide),Nat.add_zero,show min (n + 1) k = k by omega,show min n k = k by omega]
    cases k <;> rfl
end Om
set_option maxRecDepth 100000 in
theorem zim (x:Int) (w:World):Calls Tryz.prog 70 #[.int .u64 x] w fun e w' => e = .returned (.int .i64 (Om.o x)) ∧ w = w':=by
 go_enter Tryz.func70,Tryz.ntmps70
 go_wp2
 go_ret
 exact ⟨rfl,rfl⟩
theorem zj7 (n:Nat) (w:World) (h:n < 128):Calls Tryz.prog 70 #[.int .u64 (n:Int)] w fun e w' => e = .returned (.int .i64 ((Om.cnt n 7:Nat):Int)) ∧ Below w.heap.size w w' :=
 (zim (n:Int) w).mono fun e w' q => ⟨by rw [q.1,Om.o_at h],q.2 ▸ Below.refl _ _⟩
set_option maxRecDepth 100000 in
theorem zn2 (c:Cf) (h:0 ≤ c.f ∧ c.f ≤ 3) (w:World):Calls Tryz.prog 74 #[.agg (cf c).toArray] w fun e w' => e = .returned (.int .i64 (2 * c.f + 1)) ∧ Below w.heap.size w w':=by
 have HB:=Lib.hid (Bxs.start w)
 have hw1:IntKind.i64.wrap (2 * c.f) = 2 * c.f:=by rw [IntKind.wrap_i64]; omega
 have hw2:IntKind.i64.wrap (2 * c.f + 1) = 2 * c.f + 1:=by rw [IntKind.wrap_i64]; omega
 clear h
 go_enter Tryz.func74,Tryz.ntmps74
 go_wp2_with (first | ((with_reducible refine zah HB ?_); clear HB; intro w_ HB) | ((with_reducible refine zad ?_); first | (refine Kx.zcl HB rfl _ _ rfl _ rfl ?_; clear HB; intro b_ w_ HB; refine Kx.framed ?_ (by simp only [Act.put,List.setIfInBounds_toArray,List.set_cons_succ,List.set_cons_zero] <;> rfl)) | (refine Kx.zck HB rfl _ _ rfl _ rfl rfl ?_; clear HB; intro b_ w_ HB; refine Kx.framed ?_ (by simp only [Act.put,List.setIfInBounds_toArray,List.set_cons_succ,List.set_cons_zero] <;> rfl)) | (refine Kx.zb8 HB rfl _ _ rfl _ rfl rfl ?_; clear HB; intro b_ w_ HB; refine Kx.framed ?_ (by simp only [Act.put,List.setIfInBounds_toArray,List.set_cons_succ,List.set_cons_zero] <;> rfl))) | ((with_reducible refine zaa ?_); first | (refine Kx.zb3 HB rfl _ rfl _ (Tryz.zeroValue24 _) ?_; clear HB; intro b_ w_ HB; refine Kx.framed ?_ (by simp only [Act.put,List.setIfInBounds_toArray,List.set_cons_succ,List.set_cons_zero] <;> rfl)) | (refine Kx.zbt HB rfl _ rfl _ (Tryz.zeroValue3 _) rfl ?_; clear HB; intro b_ w_ HB; refine Kx.framed ?_ (by simp only [Act.put,List.setIfInBounds_toArray,List.set_cons_succ,List.set_cons_zero] <;> rfl))) | ((with_reducible refine zab ?_); first | (refine Kx.zau HB rfl _ _ rfl _ rfl _ (Tryz.isAgg3 _) _ rfl (Kx.framed ?_ (by simp only [Act.put,List.setIfInBounds_toArray,List.set_cons_succ,List.set_cons_zero] <;> rfl))) | (refine Kx.za2 HB rfl _ _ rfl _ rfl _ _ (Tryz.isAgg24 _) (Tryz.sizeOf24 _) _ (by first | exact Kx.whole (by rfl) | (simp <;> rfl)) (by rfl) (Kx.framed ?_ (by simp only [Act.put,List.setIfInBounds_toArray,List.set_cons_succ,List.set_cons_zero] <;> rfl))) | (refine Kx.zcx HB rfl _ _ rfl _ rfl (Tryz.isAgg3 _) _ HC.out (Kx.framed ?_ (by simp only [Act.put,List.setIfInBounds_toArray,List.set_cons_succ,List.set_cons_zero] <;> rfl)))) | ((with_reducible refine zac ?_); first | (refine Kx.zav HB _ _ rfl _ rfl _ (Tryz.isAgg3 _) _ rfl rfl (Kx.framed ?_ (by simp only [Act.put,List.setIfInBounds_toArray,List.set_cons_succ,List.set_cons_zero] <;> rfl))) | (refine Kx.zcd HB _ _ rfl _ rfl _ _ (Tryz.isAgg24 _) (Tryz.sizeOf24 _) _ (by first | exact Kx.whole (by rfl) | (simp <;> rfl)) (by rfl) rfl (Kx.framed ?_ (by simp only [Act.put,List.setIfInBounds_toArray,List.set_cons_succ,List.set_cons_zero] <;> rfl))) | (refine Kx.zcj HB _ _ rfl _ rfl (Tryz.isAgg3 _) _ HC.out rfl (Kx.framed ?_ (by simp only [Act.put,List.setIfInBounds_toArray,List.set_cons_succ,List.set_cons_zero] <;> rfl)))) | ((with_reducible refine zae ?_); first | (refine Kx.zbc HB rfl rfl _ _ _ rfl _ rfl _ rfl _ (by rfl) (by simp <;> rfl) (by rfl) ?_; clear HB; intro w_ HB) | (refine Kx.zbh HB rfl rfl _ _ _ rfl _ rfl _ rfl _ _ (by simp [Kx.splice] <;> rfl) (by simp) (by simp <;> rfl) (by rfl) ?_; clear HB; intro w_ HB) | (refine Kx.zcc HB rfl rfl _ _ _ rfl _ rfl rfl _ _ (by simp <;> rfl) (by simp) (by simp <;> rfl) ?_; clear HB; intro w_ HB) | (refine Kx.zbg HB rfl rfl _ _ _ rfl _ rfl _ rfl rfl _ _ (by simp <;> rfl) (by simp) (by simp <;> rfl) ?_; clear HB; intro w_ HB) | (refine Kx.za5 HB rfl rfl _ _ _ rfl _ rfl _ rfl rfl _ _ (by simp <;> rfl) (by simp) (by simp <;> rfl) ?_; clear HB; intro w_ HB)))
 go_ret
 exact ⟨rfl,HB.out.below⟩
set_option maxRecDepth 100000 in
theorem Acc_any (c:Cf) (w:World):Calls Tryz.prog 69 #[.agg (cf c).toArray] w fun e w' => e = .returned (.int .i64 ((2 * Fc c + 1:Nat):Int)) ∧ Below w.heap.size w w':=by
 have HB:=Lib.hid (Bxs.start w)
 obtain ⟨m1,hm1⟩ : ∃ m1:Int,(if c.f < 0 then 0 else c.f) = m1:=⟨_,rfl⟩
 obtain ⟨m2,hm2⟩ : ∃ m2:Int,(if 3 < m1 then 3 else m1) = m2:=⟨_,rfl⟩
 have HE:Hid (((2 * Fc c + 1:Nat):Int) = 2 * m2 + 1):=Lib.hid (by unfold Fc; rw [←hm2,←hm1]; split <;> split <;> (try split) <;> omega)
 have HA:Hid (∀ W,Calls Tryz.prog 74 #[.agg (cf { c with f:=m2 }).toArray] W fun e w' => e = .returned (.int .i64 (2 * m2 + 1)) ∧ Below W.heap.size W w'):=Lib.hid (fun W => zn2 { c with f:=m2 } (by show 0 ≤ m2 ∧ m2 ≤ 3; rw [←hm2,←hm1]; split <;> split <;> (try split) <;> omega) W)
 go_enter Tryz.func69,Tryz.ntmps69
 go_upto_region 1 with (first | ((with_reducible refine zah HB ?_); clear HB; intro w_ HB) | ((with_reducible refine zad (d:=some 1) ?_); first | (refine Kx.zcl HB rfl _ _ rfl _ rfl ?_; clear HB; intro b1 w_ HB; refine Kx.framed ?_ (by simp only [Act.put,List.setIfInBounds_toArray,List.set_cons_succ,List.set_cons_zero] <;> rfl)) | (refine Kx.zck HB rfl _ _ rfl _ rfl rfl ?_; clear HB; intro b1 w_ HB; refine Kx.framed ?_ (by simp only [Act.put,List.setIfInBounds_toArray,List.set_cons_succ,List.set_cons_zero] <;> rfl)) | (refine Kx.zb8 HB rfl _ _ rfl _ rfl rfl ?_; clear HB; intro b1 w_ HB; refine Kx.framed ?_ (by simp only [Act.put,List.setIfInBounds_toArray,List.set_cons_succ,List.set_cons_zero] <;> rfl))) | ((with_reducible refine zaa (d:=some 1) ?_); first | (refine Kx.zb3 HB rfl _ rfl _ (Tryz.zeroValue24 _) ?_; clear HB; intro b1 w_ HB; refine Kx.framed ?_ (by simp only [Act.put,List.setIfInBounds_toArray,List.set_cons_succ,List.set_cons_zero] <;> rfl)) | (refine Kx.zbt HB rfl _ rfl _ (Tryz.zeroValue3 _) rfl ?_; clear HB; intro b1 w_ HB; refine Kx.framed ?_ (by simp only [Act.put,List.setIfInBounds_toArray,List.set_cons_succ,List.set_cons_zero] <;> rfl))) | ((with_reducible refine zad ?_); first | (refine Kx.zcl HB rfl _ _ rfl _ rfl ?_; clear HB; intro b_ w_ HB; refine Kx.framed ?_ (by simp only [Act.put,List.setIfInBounds_toArray,List.set_cons_succ,List.set_cons_zero] <;> rfl)) | (refine Kx.zck HB rfl _ _ rfl _ rfl rfl ?_; clear HB; intro b_ w_ HB; refine Kx.framed ?_ (by simp only [Act.put,List.setIfInBounds_toArray,List.set_cons_succ,List.set_cons_zero] <;> rfl)) | (refine Kx.zb8 HB rfl _ _ rfl _ rfl rfl ?_; clear HB; intro b_ w_ HB; refine Kx.framed ?_ (by simp only [Act.put,List.setIfInBounds_toArray,List.set_cons_succ,List.set_cons_zero] <;> rfl))) | ((with_reducible refine zaa ?_); first | (refine Kx.zb3 HB rfl _ rfl _ (Tryz.zeroValue24 _) ?_; clear HB; intro b_ w_ HB; refine Kx.framed ?_ (by simp only [Act.put,List.setIfInBounds_toArray,List.set_cons_succ,List.set_cons_zero] <;> rfl)) | (refine Kx.zbt HB rfl _ rfl _ (Tryz.zeroValue3 _) rfl ?_; clear HB; intro b_ w_ HB; refine Kx.framed ?_ (by simp only [Act.put,List.setIfInBounds_toArray,List.set_cons_succ,List.set_cons_zero] <;> rfl))) | ((with_reducible refine zab ?_); first | (refine Kx.zau HB rfl _ _ rfl _ rfl _ (Tryz.isAgg3 _) _ rfl (Kx.framed ?_ (by simp only [Act.put,List.setIfInBounds_toArray,List.set_cons_succ,List.set_cons_zero] <;> rfl))) | (refine Kx.za2 HB rfl _ _ rfl _ rfl _ _ (Tryz.isAgg24 _) (Tryz.sizeOf24 _) _ (by first | exact Kx.whole (by rfl) | (simp <;> rfl)) (by rfl) (Kx.framed ?_ (by simp only [Act.put,List.setIfInBounds_toArray,List.set_cons_succ,List.set_cons_zero] <;> rfl))) | (refine Kx.zcx HB rfl _ _ rfl _ rfl (Tryz.isAgg3 _) _ HC.out (Kx.framed ?_ (by simp only [Act.put,List.setIfInBounds_toArray,List.set_cons_succ,List.set_cons_zero] <;> rfl)))) | ((with_reducible refine zac ?_); first | (refine Kx.zav HB _ _ rfl _ rfl _ (Tryz.isAgg3 _) _ rfl rfl (Kx.framed ?_ (by simp only [Act.put,List.setIfInBounds_toArray,List.set_cons_succ,List.set_cons_zero] <;> rfl))) | (refine Kx.zcd HB _ _ rfl _ rfl _ _ (Tryz.isAgg24 _) (Tryz.sizeOf24 _) _ (by first | exact Kx.whole (by rfl) | (simp <;> rfl)) (by rfl) rfl (Kx.framed ?_ (by simp only [Act.put,List.setIfInBounds_toArray,List.set_cons_succ,List.set_cons_zero] <;> rfl))) | (refine Kx.zcj HB _ _ rfl _ rfl (Tryz.isAgg3 _) _ HC.out rfl (Kx.framed ?_ (by simp only [Act.put,List.setIfInBounds_toArray,List.set_cons_succ,List.set_cons_zero] <;> rfl)))) | ((with_reducible refine zae ?_); first | (refine Kx.zbc HB rfl rfl _ _ _ rfl _ rfl _ rfl _ (by rfl) (by simp <;> rfl) (by rfl) ?_; clear HB; intro w_ HB) | (refine Kx.zbh HB rfl rfl _ _ _ rfl _ rfl _ rfl _ _ (by simp [Kx.splice] <;> rfl) (by simp) (by simp <;> rfl) (by rfl) ?_; clear HB; intro w_ HB) | (refine Kx.zcc HB rfl rfl _ _ _ rfl _ rfl rfl _ _ (by simp <;> rfl) (by simp) (by simp <;> rfl) ?_; clear HB; intro w_ HB) | (refine Kx.zbg HB rfl rfl _ _ _ rfl _ rfl _ rfl rfl _ _ (by simp <;> rfl) (by simp) (by simp <;> rfl) ?_; clear HB; intro w_ HB) | (refine Kx.za5 HB rfl rfl _ _ _ rfl _ rfl _ rfl rfl _ _ (by simp <;> rfl) (by simp) (by simp <;> rfl) ?_; clear HB; intro w_ HB)))
 simp only [cf] at HB
 go_wp2_with (first | (go_at_call 74; refine Calls.mono (HA.out _) ?_; rintro e w_ ⟨rfl,hb_⟩; replace HB:=Lib.hid (HB.out.call hb_); clear hb_) | (first | ((with_reducible refine zah HB ?_); clear HB; intro w_ HB) | ((with_reducible refine zab ?_); first | (refine Kx.zau HB rfl _ _ rfl _ rfl _ (Tryz.isAgg3 _) _ rfl (Kx.framed ?_ (by simp only [Act.put,List.setIfInBounds_toArray,List.set_cons_succ,List.set_cons_zero] <;> rfl))) | (refine Kx.za2 HB rfl _ _ rfl _ rfl _ _ (Tryz.isAgg24 _) (Tryz.sizeOf24 _) _ (by first | exact Kx.whole (by rfl) | (simp <;> rfl)) (by rfl) (Kx.framed ?_ (by simp only [Act.put,List.setIfInBounds_toArray,List.set_cons_succ,List.set_cons_zero] <;> rfl)))) | ((with_reducible refine zac ?_); first | (refine Kx.zav HB _ _ rfl _ rfl _ (Tryz.isAgg3 _) _ rfl rfl (Kx.framed ?_ (by simp only [Act.put,List.setIfInBounds_toArray,List.set_cons_succ,List.set_cons_zero] <;> rfl)))) | ((with_reducible refine zae ?_); first | (refine Kx.zbh HB rfl rfl _ _ _ rfl _ rfl _ rfl _ _ (by simp [Kx.splice] <;> rfl) (by simp) (by simp <;> rfl) (by rfl) ?_; clear HB; intro w_ HB) | (refine Kx.zbc HB rfl rfl _ _ _ rfl _ rfl _ rfl _ (by rfl) (by simp <;> rfl) (by rfl) ?_; clear HB; intro w_ HB) | (refine Kx.zbg HB rfl rfl _ _ _ rfl _ rfl _ rfl rfl _ _ (by simp <;> rfl) (by simp) (by simp <;> rfl) ?_; clear HB; intro w_ HB) | (refine Kx.za5 HB rfl rfl _ _ _ rfl _ rfl _ rfl rfl _ _ (by simp <;> rfl) (by simp) (by simp <;> rfl) ?_; clear HB; intro w_ HB))))
 go_ret
 exact ⟨by rw [HE.out]; rfl,HB.out.below⟩
set_option maxRecDepth 100000 in
set_option maxHeartbeats 1000000 in
theorem Most_any (c:Cf) (m:Nat) (w:World) (hm:m < 18446744073709551616):Calls Tryz.prog 42 #[.agg (cf c).toArray,.int .u64 (m:Int)] w fun e w' => e = .returned (.bool (Om.most (Fc c) m)) ∧ Below w.heap.size w w':=by
 have HB:=Lib.hid (Bxs.start w)
 have HF:Hid (∀ W,Calls Tryz.prog 69 #[.agg (cf c).toArray] W fun e w' => e = .returned (.int .i64 ((2 * Fc c + 1:Nat):Int)) ∧ Below W.heap.size W w'):=Lib.hid (fun W => Acc_any c W)
 have hf3:Fc c ≤ 3:=Fc_le c
 generalize Fc c = f at *
 have hk:2 * f + 1 ≤ 7:=by omega
 have HM:Hid (Om.most f m = decide (((2 * f + 1:Nat):Int) - (Om.cnt m (2 * f + 1):Int) < (Om.cnt m (2 * f + 1):Int))):=Lib.hid (by unfold Om.most; rw [decide_eq_decide]; omega)
 have hcl:=Om.cnt_le m (2 * f + 1)
 have hcc:Om.cnt (m &&& (2 ^ (2 * f + 1) - 1)) 7 = Om.cnt m (2 * f + 1):=by rw [Om.zrb,show min 7 (2 * f + 1) = 2 * f + 1 by omega]
 have h2:2 ^ (2 * f + 1) ≤ 128:=Nat.pow_le_pow_right (by decide) hk
 have h2p:=Nat.two_pow_pos (2 * f + 1)
 have hx:m &&& (2 ^ (2 * f + 1) - 1) < 128:=Nat.lt_of_le_of_lt Nat.and_le_right (by omega)
 have HO:Hid (∀ W,Calls Tryz.prog 70 #[.int .u64 ((m &&& (2 ^ (2 * f + 1) - 1):Nat):Int)] W fun e w' => e = .returned (.int .i64 ((Om.cnt m (2 * f + 1):Nat):Int)) ∧ Below W.heap.size W w'):=Lib.hid (fun W => by have:=zj7 _ W hx; rwa [hcc] at this)
 have hs:IntKind.u64.wrap (2 ^ (2 * f + 1)) = ((2 ^ (2 * f + 1):Nat):Int):=by
  rw [IntKind.wrap_u64,show ((2:Int) ^ (2 * f + 1)) = ((2 ^ (2 * f + 1):Nat):Int) from (Int.natCast_pow 2 _).symm]
  omega
 have hs1:IntKind.u64.wrap (((2 ^ (2 * f + 1):Nat):Int) - 1) = ((2 ^ (2 * f + 1) - 1:Nat):Int):=by rw [IntKind.wrap_u64]; omega
 have hand:bits BinOp.and IntKind.u64 (m:Int) ((2 ^ (2 * f + 1) - 1:Nat):Int) = ((m &&& (2 ^ (2 * f + 1) - 1):Nat):Int):=bits_and_u64_nat m _ hm (by omega)
 have hw3:IntKind.i64.wrap (((2 * f + 1:Nat):Int) - (Om.cnt m (2 * f + 1):Int)) = ((2 * f + 1:Nat):Int) - (Om.cnt m (2 * f + 1):Int):=by rw [IntKind.wrap_i64]; omega
 generalize Om.cnt m (2 * f + 1) = cn at *
 generalize 2 * f + 1 = k at *
 generalize m &&& (2 ^ k - 1) = x at *
 obtain ⟨z,hz⟩ : ∃ z:Nat,2 ^ k = z:=⟨_,rfl⟩
 rw [hz] at hs hs1 hand
 obtain ⟨z1,hz1⟩ : ∃ z1:Nat,z - 1 = z1:=⟨_,rfl⟩
 rw [hz1] at hs1 hand
 have hk64:(k:Int) ≤ 64:=by omega
 clear hz hz1 hcc h2 h2p hx hcl hf3 hm
 go_enter Tryz.func42,Tryz.ntmps42
 go_wp2_with (first | (go_at_call 69; refine Calls.mono (HF.out _) ?_; rintro e w_ ⟨rfl,hb_⟩; replace HB:=Lib.hid (HB.out.call hb_); clear hb_) | (go_at_call 70; refine Calls.mono (HO.out _) ?_; rintro e w_ ⟨rfl,hb_⟩; replace HB:=Lib.hid (HB.out.call hb_); clear hb_) | (first | ((with_reducible refine zah HB ?_); clear HB; intro w_ HB) | ((with_reducible refine zad ?_); first | (refine Kx.zcl HB rfl _ _ rfl _ rfl ?_; clear HB; intro b_ w_ HB; refine Kx.framed ?_ (by simp only [Act.put,List.setIfInBounds_toArray,List.set_cons_succ,List.set_cons_zero] <;> rfl)) | (refine Kx.zck HB rfl _ _ rfl _ rfl rfl ?_; clear HB; intro b_ w_ HB; refine Kx.framed ?_ (by simp only [Act.put,List.setIfInBounds_toArray,List.set_cons_succ,List.set_cons_zero] <;> rfl)) | (refine Kx.zb8 HB rfl _ _ rfl _ rfl rfl ?_; clear HB; intro b_ w_ HB; refine Kx.framed ?_ (by simp only [Act.put,List.setIfInBounds_toArray,List.set_cons_succ,List.set_cons_zero] <;> rfl))) | ((with_reducible refine zaa ?_); first | (refine Kx.zb3 HB rfl _ rfl _ (Tryz.zeroValue24 _) ?_; clear HB; intro b_ w_ HB; refine Kx.framed ?_ (by simp only [Act.put,List.setIfInBounds_toArray,List.set_cons_succ,List.set_cons_zero] <;> rfl)) | (refine Kx.zbt HB rfl _ rfl _ (Tryz.zeroValue3 _) rfl ?_; clear HB; intro b_ w_ HB; refine Kx.framed ?_ (by simp only [Act.put,List.setIfInBounds_toArray,List.set_cons_succ,List.set_cons_zero] <;> rfl)) | (refine Kx.zbt HB rfl _ rfl _ (Tryz.zeroValue32 _) rfl ?_; clear HB; intro b_ w_ HB; refine Kx.framed ?_ (by simp only [Act.put,List.setIfInBounds_toArray,List.set_cons_succ,List.set_cons_zero] <;> rfl))) | ((with_reducible refine zab ?_); first | (refine Kx.zau HB rfl _ _ rfl _ rfl _ (Tryz.isAgg3 _) _ rfl (Kx.framed ?_ (by simp only [Act.put,List.setIfInBounds_toArray,List.set_cons_succ,List.set_cons_zero] <;> rfl))) | (refine Kx.zau HB rfl _ _ rfl _ rfl _ (Tryz.isAgg32 _) _ rfl (Kx.framed ?_ (by simp only [Act.put,List.setIfInBounds_toArray,List.set_cons_succ,List.set_cons_zero] <;> rfl))) | (refine Kx.za2 HB rfl _ _ rfl _ rfl _ _ (Tryz.isAgg24 _) (Tryz.sizeOf24 _) _ (by first | exact Kx.whole (by rfl) | (simp <;> rfl)) (by rfl) (Kx.framed ?_ (by simp only [Act.put,List.setIfInBounds_toArray,List.set_cons_succ,List.set_cons_zero] <;> rfl))) | (refine Kx.zcx HB rfl _ _ rfl _ rfl (Tryz.isAgg3 _) _ HC.out (Kx.framed ?_ (by simp only [Act.put,List.setIfInBounds_toArray,List.set_cons_succ,List.set_cons_zero] <;> rfl))) | (refine Kx.zcx HB rfl _ _ rfl _ rfl (Tryz.isAgg32 _) _ HC.out (Kx.framed ?_ (by simp only [Act.put,List.setIfInBounds_toArray,List.set_cons_succ,List.set_cons_zero] <;> rfl)))) | ((with_reducible refine zac ?_); first | (refine Kx.zav HB _ _ rfl _ rfl _ (Tryz.isAgg3 _) _ rfl rfl (Kx.framed ?_ (by simp only [Act.put,List.setIfInBounds_toArray,List.set_cons_succ,List.set_cons_zero] <;> rfl))) | (refine Kx.zav HB _ _ rfl _ rfl _ (Tryz.isAgg32 _) _ rfl rfl (Kx.framed ?_ (by simp only [Act.put,List.setIfInBounds_toArray,List.set_cons_succ,List.set_cons_zero] <;> rfl))) | (refine Kx.zcd HB _ _ rfl _ rfl _ _ (Tryz.isAgg24 _) (Tryz.sizeOf24 _) _ (by first | exact Kx.whole (by rfl) | (simp <;> rfl)) (by rfl) rfl (Kx.framed ?_ (by simp only [Act.put,List.setIfInBounds_toArray,List.set_cons_succ,List.set_cons_zero] <;> rfl))) | (refine Kx.zcj HB _ _ rfl _ rfl (Tryz.isAgg3 _) _ HC.out rfl (Kx.framed ?_ (by simp only [Act.put,List.setIfInBounds_toArray,List.set_cons_succ,List.set_cons_zero] <;> rfl))) | (refine Kx.zcj HB _ _ rfl _ rfl (Tryz.isAgg32 _) _ HC.out rfl (Kx.framed ?_ (by simp only [Act.put,List.setIfInBounds_toArray,List.set_cons_succ,List.set_cons_zero] <;> rfl)))) | ((with_reducible refine zae ?_); first | (refine Kx.zbc HB rfl rfl _ _ _ rfl _ rfl _ rfl _ (by rfl) (by simp <;> rfl) (by rfl) ?_; clear HB; intro w_ HB) | (refine Kx.zbh HB rfl rfl _ _ _ rfl _ rfl _ rfl _ _ (by simp [Kx.splice] <;> rfl) (by simp) (by simp <;> rfl) (by rfl) ?_; clear HB; intro w_ HB) | (refine Kx.zcc HB rfl rfl _ _ _ rfl _ rfl rfl _ _ (by simp <;> rfl) (by simp) (by simp <;> rfl) ?_; clear HB; intro w_ HB) | (refine Kx.zbg HB rfl rfl _ _ _ rfl _ rfl _ rfl rfl _ _ (by simp <;> rfl) (by simp) (by simp <;> rfl) ?_; clear HB; intro w_ HB) | (refine Kx.za5 HB rfl rfl _ _ _ rfl _ rfl _ rfl rfl _ _ (by simp <;> rfl) (by simp) (by simp <;> rfl) ?_; clear HB; intro w_ HB))))
 go_ret
 exact ⟨by rw [HM.out]; rfl,HB.out.below⟩
end Go.Proofs.YtponpgcpmlcdpaaGreatDoor

namespace Go.Proofs.YtponpgcpmlcdpaaGreatDoor
set_option linter.unusedVariables false
def zo0 (x i:Int):Int:=((x.toNat ||| 2 ^ i.toNat:Nat):Int)
theorem znt {x k:Nat} (hx:x < 18446744073709551616) (hk:k < 64):x ||| 2 ^ k < 18446744073709551616:=by
 rw [show (18446744073709551616:Nat) = 2 ^ 64 from rfl] at hx ⊢
 exact Nat.or_lt_two_pow hx (Nat.pow_lt_pow_right (by decide) hk)
end Go.Proofs.YtponpgcpmlcdpaaGreatDoor

namespace Go.Proofs.YtponpgcpmlcdpaaGreatDoor
open Go.RowKit Go.Shelf Km Kx Kc
set_option linter.unusedVariables false
def askH (h:Ho) (e now:Int):Ho:=⟨e,now,0,if h.e = e then h.u else 0⟩
def zdl (f:Nat) (h:Ho) (m:Mg):Prop:=m.k = 11 ∧ m.e = h.e ∧ m.n = h.n ∧ 0 ≤ m.f ∧ m.f ≤ 2 * (f:Int) ∧ 0 ≤ m.n ∧ m.n ≤ 1099511627776
instance (f:Nat) (h:Ho) (m:Mg):Decidable (zdl f h m):=by unfold zdl; infer_instance
def Lc (c:Cf):Int:=if c.l < 0 then 0 else if 1048576 < c.l then 1048576 else c.l
theorem Lc_in (c:Cf):0 ≤ Lc c ∧ Lc c ≤ 1048576:=by unfold Lc; split; (· omega); split <;> omega
def ze7 (f:Nat) (L:Int) (h:Ho) (m:Mg):Ho :=
 if zdl f h m then (if Om.most f (zo0 h.g m.f).toNat = true then { h with g:=zo0 h.g m.f,u:=if h.u < h.n + L then h.n + L else h.u } else { h with g:=zo0 h.g m.f }) else h
def zol (h:Ho) (e now:Int):Bool:=(h.e == e) && decide (now < h.u)
theorem zlj (e n:Int):Tryz.prog.built 66 [(0,.int .i64 e),(1,.int .i64 n)] = some #[.int .i64 e,.int .i64 n,.int .u64 0,.int .i64 0]:=by kernel_rfl
theorem zej {f:Nat} {L:Int} {h:Ho} {m:Mg} (q:¬ zdl f h m):ze7 f L h m = h:=if_neg q
theorem zdl.from {f:Nat} {h:Ho} {m:Mg} (q:zdl f h m) (hf:f ≤ 3):∃ k:Nat,m.f = (k:Int) ∧ k < 7:=⟨m.f.toNat,by have:=q.2.2.2.1; omega,by have:=q.2.2.2; omega⟩
end Go.Proofs.YtponpgcpmlcdpaaGreatDoor

namespace Go.Proofs.YtponpgcpmlcdpaaGreatDoor
open Go.RowKit Go.Shelf Km Kx Kc
set_option linter.unusedVariables false
instance instHoldA:Kx.AggC Tryz.prog 66 4:=⟨Tryz.isAgg66,Tryz.sizeOf66⟩
instance instHoldZ:Kx.ZAgg Tryz.prog 66 [.int .i64 0,.int .i64 0,.int .u64 0,.int .i64 0]:=⟨Tryz.zeroValue66⟩
theorem gr_built (e n g u:Int):Tryz.prog.built 66 [(0,.int .i64 e),(1,.int .i64 n),(2,.int .u64 g),(3,.int .i64 u)] = some #[.int .i64 e,.int .i64 n,.int .u64 g,.int .i64 u]:=by kernel_rfl
set_option maxRecDepth 100000 in
set_option maxHeartbeats 1000000 in
theorem zm1 (h:Ho) (e now:Int) (w:World):Calls Tryz.prog 23 #[.agg h.cells.toArray,.int .i64 e,.int .i64 now] w fun en w' => en = .returned (.agg (askH h e now).cells.toArray) ∧ Below w.heap.size w w':=by
 have HB:=Lib.hid (Bxs.start w)
 by_cases q:h.e = e
 ·have b1:(h.e == e) = true:=beq_iff_eq.2 q
  have HE:Hid (askH h e now = ⟨e,now,0,h.u⟩):=Lib.hid (by unfold askH; rw [if_pos q])
  clear q
  go_enter Tryz.func23,Tryz.ntmps23
  go_wp2_with (first | ((with_reducible refine zaz ?_); refine Km.wpList_build rfl 66 _ rfl #[(0,.int .i64 e),(1,.int .i64 now)] (by first | rfl | (go_simp; try rfl)) [.int .i64 e,.int .i64 now,.int .u64 0,.int .i64 0].toArray (zlj e now) ?_; refine Kx.framed ?_ (by simp only [Act.put,List.setIfInBounds_toArray,List.set_cons_succ,List.set_cons_zero] <;> rfl)) | (first | ((with_reducible refine zah HB ?_); clear HB; intro w_ HB) | ((with_reducible refine zad (d:=some 3) ?_); (first | refine boxa HB rfl ?_ | refine boxt HB rfl rfl ?_ | refine box1 HB rfl rfl ?_); clear HB; intro b3 w_ HB; refine Kx.fr ?_) | ((with_reducible refine zaa (d:=some 3) ?_); (first | refine ala HB ?_ | refine al1 HB ?_); clear HB; intro b3 w_ HB; refine Kx.fr ?_) | ((with_reducible refine zad (d:=some 6) ?_); (first | refine boxa HB rfl ?_ | refine boxt HB rfl rfl ?_ | refine box1 HB rfl rfl ?_); clear HB; intro b6 w_ HB; refine Kx.fr ?_) | ((with_reducible refine zaa (d:=some 6) ?_); (first | refine ala HB ?_ | refine al1 HB ?_); clear HB; intro b6 w_ HB; refine Kx.fr ?_) | ((with_reducible refine zad (d:=some 7) ?_); (first | refine boxa HB rfl ?_ | refine boxt HB rfl rfl ?_ | refine box1 HB rfl rfl ?_); clear HB; intro b7 w_ HB; refine Kx.fr ?_) | ((with_reducible refine zaa (d:=some 7) ?_); (first | refine ala HB ?_ | refine al1 HB ?_); clear HB; intro b7 w_ HB; refine Kx.fr ?_) | ((with_reducible refine zad ?_); (first | refine boxa HB rfl ?_ | refine boxt HB rfl rfl ?_ | refine box1 HB rfl rfl ?_); clear HB; intro b_ w_ HB; refine Kx.fr ?_) | ((with_reducible refine zaa ?_); (first | refine ala HB ?_ | refine al1 HB ?_); clear HB; intro b_ w_ HB; refine Kx.fr ?_) | ((with_reducible refine zab ?_); first | refine Kx.l1 HB rfl rfl ?_ | refine Kx.la HB rfl ?_) | ((with_reducible refine zac ?_); first | refine l1g HB rfl rfl rfl ?_ | refine Kx.lag HB rfl rfl ?_) | ((with_reducible refine zae ?_); (first | refine stwa HB rfl rfl ?_ | refine sta HB rfl rfl ?_ | refine Kx.stc HB rfl rfl ?_ | refine Kx.stt HB rfl rfl rfl ?_ | refine Kx.st1 HB rfl rfl rfl ?_); clear HB; intro w_ HB)))
  refine bodyPost_ret (Kx.zb6 HB rfl _ _ _ rfl (by first | (simp <;> rfl) | rfl) (by first | (simp <;> rfl) | rfl)) rfl ?_; exact ⟨by rw [HE.out]; rfl,HB.out.below⟩
 ·have b1:(h.e == e) = false:=beq_false_of_ne q
  have HE:Hid (askH h e now = ⟨e,now,0,0⟩):=Lib.hid (by unfold askH; rw [if_neg q])
  clear q
  go_enter Tryz.func23,Tryz.ntmps23
  go_wp2_with (first | ((with_reducible refine zaz ?_); refine Km.wpList_build rfl 66 _ rfl #[(0,.int .i64 e),(1,.int .i64 now)] (by first | rfl | (go_simp; try rfl)) [.int .i64 e,.int .i64 now,.int .u64 0,.int .i64 0].toArray (zlj e now) ?_; refine Kx.framed ?_ (by simp only [Act.put,List.setIfInBounds_toArray,List.set_cons_succ,List.set_cons_zero] <;> rfl)) | (first | ((with_reducible refine zah HB ?_); clear HB; intro w_ HB) | ((with_reducible refine zad (d:=some 3) ?_); (first | refine boxa HB rfl ?_ | refine boxt HB rfl rfl ?_ | refine box1 HB rfl rfl ?_); clear HB; intro b3 w_ HB; refine Kx.fr ?_) | ((with_reducible refine zaa (d:=some 3) ?_); (first | refine ala HB ?_ | refine al1 HB ?_); clear HB; intro b3 w_ HB; refine Kx.fr ?_) | ((with_reducible refine zad (d:=some 6) ?_); (first | refine boxa HB rfl ?_ | refine boxt HB rfl rfl ?_ | refine box1 HB rfl rfl ?_); clear HB; intro b6 w_ HB; refine Kx.fr ?_) | ((with_reducible refine zaa (d:=some 6) ?_); (first | refine ala HB ?_ | refine al1 HB ?_); clear HB; intro b6 w_ HB; refine Kx.fr ?_) | ((with_reducible refine zad (d:=some 7) ?_); (first | refine boxa HB rfl ?_ | refine boxt HB rfl rfl ?_ | refine box1 HB rfl rfl ?_); clear HB; intro b7 w_ HB; refine Kx.fr ?_) | ((with_reducible refine zaa (d:=some 7) ?_); (first | refine ala HB ?_ | refine al1 HB ?_); clear HB; intro b7 w_ HB; refine Kx.fr ?_) | ((with_reducible refine zad ?_); (first | refine boxa HB rfl ?_ | refine boxt HB rfl rfl ?_ | refine box1 HB rfl rfl ?_); clear HB; intro b_ w_ HB; refine Kx.fr ?_) | ((with_reducible refine zaa ?_); (first | refine ala HB ?_ | refine al1 HB ?_); clear HB; intro b_ w_ HB; refine Kx.fr ?_) | ((with_reducible refine zab ?_); first | refine Kx.l1 HB rfl rfl ?_ | refine Kx.la HB rfl ?_) | ((with_reducible refine zac ?_); first | refine l1g HB rfl rfl rfl ?_ | refine Kx.lag HB rfl rfl ?_) | ((with_reducible refine zae ?_); (first | refine stwa HB rfl rfl ?_ | refine sta HB rfl rfl ?_ | refine Kx.stc HB rfl rfl ?_ | refine Kx.stt HB rfl rfl rfl ?_ | refine Kx.st1 HB rfl rfl rfl ?_); clear HB; intro w_ HB)))
  refine bodyPost_ret (Kx.zb6 HB rfl _ _ _ rfl (by first | (simp <;> rfl) | rfl) (by first | (simp <;> rfl) | rfl)) rfl ?_; exact ⟨by rw [HE.out]; rfl,HB.out.below⟩
set_option maxRecDepth 100000 in
set_option maxHeartbeats 1000000 in
theorem zfi (h:Ho) (e now:Int) (w:World):Calls Tryz.prog 25 #[.agg h.cells.toArray,.int .i64 e,.int .i64 now] w fun en w' => en = .returned (.bool (zol h e now)) ∧ Below w.heap.size w w':=by
 have HB:=Lib.hid (Bxs.start w)
 cases q:(h.e == e) with
 | true =>
   have HE:Hid (zol h e now = decide (now < h.u)):=Lib.hid (by unfold zol; rw [q]; rfl)
   go_enter Tryz.func25,Tryz.ntmps25
   go_wp2_with (first | ((with_reducible refine zah HB ?_); clear HB; intro w_ HB) | ((with_reducible refine zad (d:=some 3) ?_); (first | refine boxa HB rfl ?_ | refine boxt HB rfl rfl ?_ | refine box1 HB rfl rfl ?_); clear HB; intro b3 w_ HB; refine Kx.fr ?_) | ((with_reducible refine zaa (d:=some 3) ?_); (first | refine ala HB ?_ | refine al1 HB ?_); clear HB; intro b3 w_ HB; refine Kx.fr ?_) | ((with_reducible refine zad ?_); (first | refine boxa HB rfl ?_ | refine boxt HB rfl rfl ?_ | refine box1 HB rfl rfl ?_); clear HB; intro b_ w_ HB; refine Kx.fr ?_) | ((with_reducible refine zaa ?_); (first | refine ala HB ?_ | refine al1 HB ?_); clear HB; intro b_ w_ HB; refine Kx.fr ?_) | ((with_reducible refine zab ?_); first | refine Kx.l1 HB rfl rfl ?_ | refine Kx.la HB rfl ?_) | ((with_reducible refine zac ?_); first | refine l1g HB rfl rfl rfl ?_ | refine Kx.lag HB rfl rfl ?_) | ((with_reducible refine zae ?_); (first | refine stwa HB rfl rfl ?_ | refine sta HB rfl rfl ?_ | refine Kx.stc HB rfl rfl ?_ | refine Kx.stt HB rfl rfl rfl ?_ | refine Kx.st1 HB rfl rfl rfl ?_); clear HB; intro w_ HB))
   go_ret
   exact ⟨by rw [HE.out]; rfl,HB.out.below⟩
 | false =>
   have HE:Hid (zol h e now = false):=Lib.hid (by unfold zol; rw [q]; rfl)
   go_enter Tryz.func25,Tryz.ntmps25
   go_wp2_with (first | ((with_reducible refine zah HB ?_); clear HB; intro w_ HB) | ((with_reducible refine zad (d:=some 3) ?_); (first | refine boxa HB rfl ?_ | refine boxt HB rfl rfl ?_ | refine box1 HB rfl rfl ?_); clear HB; intro b3 w_ HB; refine Kx.fr ?_) | ((with_reducible refine zaa (d:=some 3) ?_); (first | refine ala HB ?_ | refine al1 HB ?_); clear HB; intro b3 w_ HB; refine Kx.fr ?_) | ((with_reducible refine zad ?_); (first | refine boxa HB rfl ?_ | refine boxt HB rfl rfl ?_ | refine box1 HB rfl rfl ?_); clear HB; intro b_ w_ HB; refine Kx.fr ?_) | ((with_reducible refine zaa ?_); (first | refine ala HB ?_ | refine al1 HB ?_); clear HB; intro b_ w_ HB; refine Kx.fr ?_) | ((with_reducible refine zab ?_); first | refine Kx.l1 HB rfl rfl ?_ | refine Kx.la HB rfl ?_) | ((with_reducible refine zac ?_); first | refine l1g HB rfl rfl rfl ?_ | refine Kx.lag HB rfl rfl ?_) | ((with_reducible refine zae ?_); (first | refine stwa HB rfl rfl ?_ | refine sta HB rfl rfl ?_ | refine Kx.stc HB rfl rfl ?_ | refine Kx.stt HB rfl rfl rfl ?_ | refine Kx.st1 HB rfl rfl rfl ?_); clear HB; intro w_ HB))
   go_ret
   exact ⟨by rw [HE.out]; rfl,HB.out.below⟩
set_option maxRecDepth 100000 in
set_option maxHeartbeats 1000000 in
theorem zij (c:Cf) (n:Int) (w:World):Calls Tryz.prog 46 #[.agg (cf c).toArray,.int .i64 n] w fun e w' => e = .returned (.bool (decide (0 ≤ n ∧ n ≤ 2 * ((Fc c:Nat):Int)))) ∧ Below w.heap.size w w':=by
 have HB:=Lib.hid (Bxs.start w)
 obtain ⟨m1,hm1⟩ : ∃ m1:Int,(if c.f < 0 then 0 else c.f) = m1:=⟨_,rfl⟩
 obtain ⟨m2,hm2⟩ : ∃ m2:Int,(if 3 < m1 then 3 else m1) = m2:=⟨_,rfl⟩
 have hF:((Fc c:Nat):Int) = m2:=by unfold Fc; rw [←hm2,←hm1]; split <;> split <;> (try split) <;> omega
 have HA:Hid (∀ W,Calls Tryz.prog 74 #[.agg (cf { c with f:=m2 }).toArray] W fun e w' => e = .returned (.int .i64 (2 * m2 + 1)) ∧ Below W.heap.size W w'):=Lib.hid (fun W => zn2 { c with f:=m2 } (by show 0 ≤ m2 ∧ m2 ≤ 3; rw [←hm2,←hm1]; split <;> split <;> (try split) <;> omega) W)
 rw [hF]
 clear hF
 by_cases q:0 ≤ n
 ·have d1:decide (0 ≤ n) = true:=decide_eq_true q
  have HE:Hid (decide (0 ≤ n ∧ n ≤ 2 * m2) = decide (n < 2 * m2 + 1)):=Lib.hid (by rw [decide_eq_decide]; omega)
  generalize 2 * m2 + 1 = k at *
  clear q
  go_enter Tryz.func46,Tryz.ntmps46
  go_upto_region 1 with (first | ((with_reducible refine zah HB ?_); clear HB; intro w_ HB) | ((with_reducible refine zad (d:=some 2) ?_); (first | refine boxa HB rfl ?_ | refine boxt HB rfl rfl ?_ | refine box1 HB rfl rfl ?_); clear HB; intro b2 w_ HB; refine Kx.fr ?_) | ((with_reducible refine zaa (d:=some 2) ?_); (first | refine ala HB ?_ | refine al1 HB ?_); clear HB; intro b2 w_ HB; refine Kx.fr ?_) | ((with_reducible refine zad ?_); (first | refine boxa HB rfl ?_ | refine boxt HB rfl rfl ?_ | refine box1 HB rfl rfl ?_); clear HB; intro b_ w_ HB; refine Kx.fr ?_) | ((with_reducible refine zaa ?_); (first | refine ala HB ?_ | refine al1 HB ?_); clear HB; intro b_ w_ HB; refine Kx.fr ?_) | ((with_reducible refine zab ?_); first | refine Kx.l1 HB rfl rfl ?_ | refine Kx.la HB rfl ?_) | ((with_reducible refine zac ?_); first | refine l1g HB rfl rfl rfl ?_ | refine Kx.lag HB rfl rfl ?_) | ((with_reducible refine zae ?_); (first | refine stwa HB rfl rfl ?_ | refine sta HB rfl rfl ?_ | refine Kx.stc HB rfl rfl ?_ | refine Kx.stt HB rfl rfl rfl ?_ | refine Kx.st1 HB rfl rfl rfl ?_); clear HB; intro w_ HB))
  simp only [cf] at HB
  go_wp2_with (first | (go_at_call 74; refine Calls.mono (HA.out _) ?_; rintro e w_ ⟨rfl,hb_⟩; replace HB:=Lib.hid (HB.out.call hb_); clear hb_) | (first | ((with_reducible refine zah HB ?_); clear HB; intro w_ HB) | ((with_reducible refine zad ?_); (first | refine boxa HB rfl ?_ | refine boxt HB rfl rfl ?_ | refine box1 HB rfl rfl ?_); clear HB; intro b_ w_ HB; refine Kx.fr ?_) | ((with_reducible refine zaa ?_); (first | refine ala HB ?_ | refine al1 HB ?_); clear HB; intro b_ w_ HB; refine Kx.fr ?_) | ((with_reducible refine zab ?_); first | refine Kx.l1 HB rfl rfl ?_ | refine Kx.la HB rfl ?_) | ((with_reducible refine zac ?_); first | refine l1g HB rfl rfl rfl ?_ | refine Kx.lag HB rfl rfl ?_) | ((with_reducible refine zae ?_); (first | refine stwa HB rfl rfl ?_ | refine sta HB rfl rfl ?_ | refine Kx.stc HB rfl rfl ?_ | refine Kx.stt HB rfl rfl rfl ?_ | refine Kx.st1 HB rfl rfl rfl ?_); clear HB; intro w_ HB)))
  go_ret
  exact ⟨by rw [HE.out]; rfl,HB.out.below⟩
 ·have d1:decide (0 ≤ n) = false:=decide_eq_false q
  have HE:Hid (decide (0 ≤ n ∧ n ≤ 2 * m2) = false):=Lib.hid (decide_eq_false (fun h => q h.1))
  clear q
  go_enter Tryz.func46,Tryz.ntmps46
  go_upto_region 1 with (first | ((with_reducible refine zah HB ?_); clear HB; intro w_ HB) | ((with_reducible refine zad (d:=some 2) ?_); (first | refine boxa HB rfl ?_ | refine boxt HB rfl rfl ?_ | refine box1 HB rfl rfl ?_); clear HB; intro b2 w_ HB; refine Kx.fr ?_) | ((with_reducible refine zaa (d:=some 2) ?_); (first | refine ala HB ?_ | refine al1 HB ?_); clear HB; intro b2 w_ HB; refine Kx.fr ?_) | ((with_reducible refine zad ?_); (first | refine boxa HB rfl ?_ | refine boxt HB rfl rfl ?_ | refine box1 HB rfl rfl ?_); clear HB; intro b_ w_ HB; refine Kx.fr ?_) | ((with_reducible refine zaa ?_); (first | refine ala HB ?_ | refine al1 HB ?_); clear HB; intro b_ w_ HB; refine Kx.fr ?_) | ((with_reducible refine zab ?_); first | refine Kx.l1 HB rfl rfl ?_ | refine Kx.la HB rfl ?_) | ((with_reducible refine zac ?_); first | refine l1g HB rfl rfl rfl ?_ | refine Kx.lag HB rfl rfl ?_) | ((with_reducible refine zae ?_); (first | refine stwa HB rfl rfl ?_ | refine sta HB rfl rfl ?_ | refine Kx.stc HB rfl rfl ?_ | refine Kx.stt HB rfl rfl rfl ?_ | refine Kx.st1 HB rfl rfl rfl ?_); clear HB; intro w_ HB))
  simp only [cf] at HB
  go_wp2_with (first | (go_at_call 74; refine Calls.mono (HA.out _) ?_; rintro e w_ ⟨rfl,hb_⟩; replace HB:=Lib.hid (HB.out.call hb_); clear hb_) | (first | ((with_reducible refine zah HB ?_); clear HB; intro w_ HB) | ((with_reducible refine zad ?_); (first | refine boxa HB rfl ?_ | refine boxt HB rfl rfl ?_ | refine box1 HB rfl rfl ?_); clear HB; intro b_ w_ HB; refine Kx.fr ?_) | ((with_reducible refine zaa ?_); (first | refine ala HB ?_ | refine al1 HB ?_); clear HB; intro b_ w_ HB; refine Kx.fr ?_) | ((with_reducible refine zab ?_); first | refine Kx.l1 HB rfl rfl ?_ | refine Kx.la HB rfl ?_) | ((with_reducible refine zac ?_); first | refine l1g HB rfl rfl rfl ?_ | refine Kx.lag HB rfl rfl ?_) | ((with_reducible refine zae ?_); (first | refine stwa HB rfl rfl ?_ | refine sta HB rfl rfl ?_ | refine Kx.stc HB rfl rfl ?_ | refine Kx.stt HB rfl rfl rfl ?_ | refine Kx.st1 HB rfl rfl rfl ?_); clear HB; intro w_ HB)))
  go_ret
  exact ⟨by rw [HE.out]; rfl,HB.out.below⟩
set_option maxRecDepth 100000 in
theorem zmh (c:Cf) (w:World):Calls Tryz.prog 47 #[.agg (cf c).toArray] w fun e w' => e = .returned (.int .i64 (Lc c)) ∧ Below w.heap.size w w':=by
 have HB:=Lib.hid (Bxs.start w)
 obtain ⟨m1,hm1⟩ : ∃ m1:Int,(if c.l < 0 then 0 else c.l) = m1:=⟨_,rfl⟩
 obtain ⟨m2,hm2⟩ : ∃ m2:Int,(if 1048576 < m1 then 1048576 else m1) = m2:=⟨_,rfl⟩
 have HE:Hid (Lc c = m2):=Lib.hid (by unfold Lc; rw [←hm2,←hm1]; split <;> split <;> (try split) <;> omega)
 go_enter Tryz.func47,Tryz.ntmps47
 go_wp2_with (first | ((with_reducible refine zah HB ?_); clear HB; intro w_ HB) | ((with_reducible refine zad ?_); (first | refine boxa HB rfl ?_ | refine boxt HB rfl rfl ?_ | refine box1 HB rfl rfl ?_); clear HB; intro b_ w_ HB; refine Kx.fr ?_) | ((with_reducible refine zaa ?_); (first | refine ala HB ?_ | refine al1 HB ?_); clear HB; intro b_ w_ HB; refine Kx.fr ?_) | ((with_reducible refine zab ?_); first | refine Kx.l1 HB rfl rfl ?_ | refine Kx.la HB rfl ?_) | ((with_reducible refine zac ?_); first | refine l1g HB rfl rfl rfl ?_ | refine Kx.lag HB rfl rfl ?_) | ((with_reducible refine zae ?_); (first | refine stwa HB rfl rfl ?_ | refine sta HB rfl rfl ?_ | refine Kx.stc HB rfl rfl ?_ | refine Kx.stt HB rfl rfl rfl ?_ | refine Kx.st1 HB rfl rfl rfl ?_); clear HB; intro w_ HB))
 go_ret
 exact ⟨by rw [HE.out]; rfl,HB.out.below⟩
set_option maxRecDepth 100000 in
set_option maxHeartbeats 8000000 in
theorem zga (h:Ho) (c:Cf) (m:Mg) (w:World) (hg:Ks.zpe h.g):Calls Tryz.prog 24 #[.agg h.cells.toArray,.agg (cf c).toArray,.agg m.cells.toArray] w fun en w' => en = .returned (.agg (ze7 (Fc c) (Lc c) h m).cells.toArray) ∧ Below w.heap.size w w':=by
 have HB:=Lib.hid (Bxs.start w)
 obtain ⟨f,hf⟩ : ∃ f,Fc c = f:=⟨_,rfl⟩
 have hf3:f ≤ 3:=by rw [←hf]; exact Fc_le c
 obtain ⟨L,hL⟩ : ∃ L,Lc c = L:=⟨_,rfl⟩
 have hLi:=Lc_in c
 have HMO:Hid (∀ (g:Nat) W,g < 18446744073709551616 → Calls Tryz.prog 42 #[.agg (cf c).toArray,.int .u64 (g:Int)] W fun e w' => e = .returned (.bool (Om.most f g)) ∧ Below W.heap.size W w'):=Lib.hid (fun g W hg => by rw [←hf]; exact Most_any c g W hg)
 have HIA:Hid (∀ W,Calls Tryz.prog 46 #[.agg (cf c).toArray,.int .i64 m.f] W fun e w' => e = .returned (.bool (decide (0 ≤ m.f ∧ m.f ≤ 2 * (f:Int)))) ∧ Below W.heap.size W w'):=Lib.hid (fun W => by rw [←hf]; exact zij c m.f W)
 have HLN:Hid (∀ W,Calls Tryz.prog 47 #[.agg (cf c).toArray] W fun e w' => e = .returned (.int .i64 L) ∧ Below W.heap.size W w'):=Lib.hid (fun W => by rw [←hL]; exact zmh c W)
 rw [hL] at hLi
 rw [hf,hL]
 clear hf hL
 obtain ⟨g,hgg⟩ : ∃ g:Nat,h.g = (g:Int):=⟨h.g.toNat,by have:=hg.1; omega⟩
 have hg64:g < 18446744073709551616:=by have:=hg.2; omega
 clear hg
 obtain ⟨he,hn,hg,hu⟩:=h
 dsimp only at hgg
 subst hgg
 have HBU:=Lib.hid (gr_built m.e m.n (g:Int) hu)
 have s1:((g:Int) == (g:Int)) = true:=beq_self_eq_true _
 have s2:(hu == hu) = true:=beq_self_eq_true _
 by_cases q1:m.e = he
 case neg =>
  have c1:(m.e == he) = false:=beq_false_of_ne q1
  have HE:=Lib.hid (zej (f:=f) (L:=L) (h:=⟨he,hn,g,hu⟩) (m:=m) (fun q => q1 q.2.1))
  clear hf3 hLi HMO q1
  dsimp only [Ho.cells]
  go_enter Tryz.func24,Tryz.ntmps24
  go_wp2_with (first | ((with_reducible refine zaz ?_); refine Km.wpList_build rfl 66 _ rfl #[(0,.int .i64 m.e),(1,.int .i64 m.n),(2,.int .u64 (g:Int)),(3,.int .i64 hu)] (by first | rfl | (go_simp; try rfl)) [.int .i64 m.e,.int .i64 m.n,.int .u64 (g:Int),.int .i64 hu].toArray (HBU.out) ?_; refine Kx.framed ?_ (by simp only [Act.put,List.setIfInBounds_toArray,List.set_cons_succ,List.set_cons_zero] <;> rfl)) | (first | ((with_reducible refine zah HB ?_); clear HB; intro w_ HB) | ((with_reducible refine zad (d:=some 3) ?_); (first | refine boxa HB rfl ?_ | refine boxt HB rfl rfl ?_ | refine box1 HB rfl rfl ?_); clear HB; intro b3 w_ HB; refine Kx.fr ?_) | ((with_reducible refine zaa (d:=some 3) ?_); (first | refine ala HB ?_ | refine al1 HB ?_); clear HB; intro b3 w_ HB; refine Kx.fr ?_) | ((with_reducible refine zad (d:=some 4) ?_); (first | refine boxa HB rfl ?_ | refine boxt HB rfl rfl ?_ | refine box1 HB rfl rfl ?_); clear HB; intro b4 w_ HB; refine Kx.fr ?_) | ((with_reducible refine zaa (d:=some 4) ?_); (first | refine ala HB ?_ | refine al1 HB ?_); clear HB; intro b4 w_ HB; refine Kx.fr ?_) | ((with_reducible refine zad (d:=some 5) ?_); (first | refine boxa HB rfl ?_ | refine boxt HB rfl rfl ?_ | refine box1 HB rfl rfl ?_); clear HB; intro b5 w_ HB; refine Kx.fr ?_) | ((with_reducible refine zaa (d:=some 5) ?_); (first | refine ala HB ?_ | refine al1 HB ?_); clear HB; intro b5 w_ HB; refine Kx.fr ?_) | ((with_reducible refine zad (d:=some 6) ?_); (first | refine boxa HB rfl ?_ | refine boxt HB rfl rfl ?_ | refine box1 HB rfl rfl ?_); clear HB; intro b6 w_ HB; refine Kx.fr ?_) | ((with_reducible refine zaa (d:=some 6) ?_); (first | refine ala HB ?_ | refine al1 HB ?_); clear HB; intro b6 w_ HB; refine Kx.fr ?_) | ((with_reducible refine zad (d:=some 7) ?_); (first | refine boxa HB rfl ?_ | refine boxt HB rfl rfl ?_ | refine box1 HB rfl rfl ?_); clear HB; intro b7 w_ HB; refine Kx.fr ?_) | ((with_reducible refine zaa (d:=some 7) ?_); (first | refine ala HB ?_ | refine al1 HB ?_); clear HB; intro b7 w_ HB; refine Kx.fr ?_) | ((with_reducible refine zad ?_); (first | refine boxa HB rfl ?_ | refine boxt HB rfl rfl ?_ | refine box1 HB rfl rfl ?_); clear HB; intro b_ w_ HB; refine Kx.fr ?_) | ((with_reducible refine zaa ?_); (first | refine ala HB ?_ | refine al1 HB ?_); clear HB; intro b_ w_ HB; refine Kx.fr ?_) | ((with_reducible refine zab ?_); first | refine Kx.l1 HB rfl rfl ?_ | refine Kx.la HB rfl ?_) | ((with_reducible refine zac ?_); first | refine l1g HB rfl rfl rfl ?_ | refine Kx.lag HB rfl rfl ?_) | ((with_reducible refine zae ?_); (first | refine stwa HB rfl rfl ?_ | refine sta HB rfl rfl ?_ | refine Kx.stc HB rfl rfl ?_ | refine Kx.stt HB rfl rfl rfl ?_ | refine Kx.st1 HB rfl rfl rfl ?_); clear HB; intro w_ HB)))
  refine bodyPost_ret (Kx.zb6 HB rfl _ _ _ rfl (by first | (simp <;> rfl) | rfl) (by first | (simp <;> rfl) | rfl)) rfl ?_; exact ⟨by rw [HE.out],HB.out.below⟩
 have c1:(m.e == he) = true:=beq_iff_eq.2 q1
 by_cases q2:m.n = hn
 case neg =>
  have c2:(m.n == hn) = false:=beq_false_of_ne q2
  have HE:=Lib.hid (zej (f:=f) (L:=L) (h:=⟨he,hn,g,hu⟩) (m:=m) (fun q => q2 q.2.2.1))
  clear hf3 hLi HMO q1 q2
  dsimp only [Ho.cells]
  go_enter Tryz.func24,Tryz.ntmps24
  go_wp2_with (first | ((with_reducible refine zaz ?_); refine Km.wpList_build rfl 66 _ rfl #[(0,.int .i64 m.e),(1,.int .i64 m.n),(2,.int .u64 (g:Int)),(3,.int .i64 hu)] (by first | rfl | (go_simp; try rfl)) [.int .i64 m.e,.int .i64 m.n,.int .u64 (g:Int),.int .i64 hu].toArray (HBU.out) ?_; refine Kx.framed ?_ (by simp only [Act.put,List.setIfInBounds_toArray,List.set_cons_succ,List.set_cons_zero] <;> rfl)) | (first | ((with_reducible refine zah HB ?_); clear HB; intro w_ HB) | ((with_reducible refine zad (d:=some 3) ?_); (first | refine boxa HB rfl ?_ | refine boxt HB rfl rfl ?_ | refine box1 HB rfl rfl ?_); clear HB; intro b3 w_ HB; refine Kx.fr ?_) | ((with_reducible refine zaa (d:=some 3) ?_); (first | refine ala HB ?_ | refine al1 HB ?_); clear HB; intro b3 w_ HB; refine Kx.fr ?_) | ((with_reducible refine zad (d:=some 4) ?_); (first | refine boxa HB rfl ?_ | refine boxt HB rfl rfl ?_ | refine box1 HB rfl rfl ?_); clear HB; intro b4 w_ HB; refine Kx.fr ?_) | ((with_reducible refine zaa (d:=some 4) ?_); (first | refine ala HB ?_ | refine al1 HB ?_); clear HB; intro b4 w_ HB; refine Kx.fr ?_) | ((with_reducible refine zad (d:=some 5) ?_); (first | refine boxa HB rfl ?_ | refine boxt HB rfl rfl ?_ | refine box1 HB rfl rfl ?_); clear HB; intro b5 w_ HB; refine Kx.fr ?_) | ((with_reducible refine zaa (d:=some 5) ?_); (first | refine ala HB ?_ | refine al1 HB ?_); clear HB; intro b5 w_ HB; refine Kx.fr ?_) | ((with_reducible refine zad (d:=some 6) ?_); (first | refine boxa HB rfl ?_ | refine boxt HB rfl rfl ?_ | refine box1 HB rfl rfl ?_); clear HB; intro b6 w_ HB; refine Kx.fr ?_) | ((with_reducible refine zaa (d:=some 6) ?_); (first | refine ala HB ?_ | refine al1 HB ?_); clear HB; intro b6 w_ HB; refine Kx.fr ?_) | ((with_reducible refine zad (d:=some 7) ?_); (first | refine boxa HB rfl ?_ | refine boxt HB rfl rfl ?_ | refine box1 HB rfl rfl ?_); clear HB; intro b7 w_ HB; refine Kx.fr ?_) | ((with_reducible refine zaa (d:=some 7) ?_); (first | refine ala HB ?_ | refine al1 HB ?_); clear HB; intro b7 w_ HB; refine Kx.fr ?_) | ((with_reducible refine zad ?_); (first | refine boxa HB rfl ?_ | refine boxt HB rfl rfl ?_ | refine box1 HB rfl rfl ?_); clear HB; intro b_ w_ HB; refine Kx.fr ?_) | ((with_reducible refine zaa ?_); (first | refine ala HB ?_ | refine al1 HB ?_); clear HB; intro b_ w_ HB; refine Kx.fr ?_) | ((with_reducible refine zab ?_); first | refine Kx.l1 HB rfl rfl ?_ | refine Kx.la HB rfl ?_) | ((with_reducible refine zac ?_); first | refine l1g HB rfl rfl rfl ?_ | refine Kx.lag HB rfl rfl ?_) | ((with_reducible refine zae ?_); (first | refine stwa HB rfl rfl ?_ | refine sta HB rfl rfl ?_ | refine Kx.stc HB rfl rfl ?_ | refine Kx.stt HB rfl rfl rfl ?_ | refine Kx.st1 HB rfl rfl rfl ?_); clear HB; intro w_ HB)))
  refine bodyPost_ret (Kx.zb6 HB rfl _ _ _ rfl (by first | (simp <;> rfl) | rfl) (by first | (simp <;> rfl) | rfl)) rfl ?_; exact ⟨by rw [HE.out],HB.out.below⟩
 have c2:(m.n == hn) = true:=beq_iff_eq.2 q2
 by_cases q0:m.k = 11
 case neg =>
  have c0:(m.k != 11) = true:=bne_iff_ne.2 q0
  have HE:=Lib.hid (zej (f:=f) (L:=L) (h:=⟨he,hn,g,hu⟩) (m:=m) (fun q => q0 q.1))
  clear hf3 hLi HMO q0 q1 q2
  dsimp only [Ho.cells]
  go_enter Tryz.func24,Tryz.ntmps24
  go_wp2_with (first | ((with_reducible refine zaz ?_); refine Km.wpList_build rfl 66 _ rfl #[(0,.int .i64 m.e),(1,.int .i64 m.n),(2,.int .u64 (g:Int)),(3,.int .i64 hu)] (by first | rfl | (go_simp; try rfl)) [.int .i64 m.e,.int .i64 m.n,.int .u64 (g:Int),.int .i64 hu].toArray (HBU.out) ?_; refine Kx.framed ?_ (by simp only [Act.put,List.setIfInBounds_toArray,List.set_cons_succ,List.set_cons_zero] <;> rfl)) | (first | ((with_reducible refine zah HB ?_); clear HB; intro w_ HB) | ((with_reducible refine zad (d:=some 3) ?_); (first | refine boxa HB rfl ?_ | refine boxt HB rfl rfl ?_ | refine box1 HB rfl rfl ?_); clear HB; intro b3 w_ HB; refine Kx.fr ?_) | ((with_reducible refine zaa (d:=some 3) ?_); (first | refine ala HB ?_ | refine al1 HB ?_); clear HB; intro b3 w_ HB; refine Kx.fr ?_) | ((with_reducible refine zad (d:=some 4) ?_); (first | refine boxa HB rfl ?_ | refine boxt HB rfl rfl ?_ | refine box1 HB rfl rfl ?_); clear HB; intro b4 w_ HB; refine Kx.fr ?_) | ((with_reducible refine zaa (d:=some 4) ?_); (first | refine ala HB ?_ | refine al1 HB ?_); clear HB; intro b4 w_ HB; refine Kx.fr ?_) | ((with_reducible refine zad (d:=some 5) ?_); (first | refine boxa HB rfl ?_ | refine boxt HB rfl rfl ?_ | refine box1 HB rfl rfl ?_); clear HB; intro b5 w_ HB; refine Kx.fr ?_) | ((with_reducible refine zaa (d:=some 5) ?_); (first | refine ala HB ?_ | refine al1 HB ?_); clear HB; intro b5 w_ HB; refine Kx.fr ?_) | ((with_reducible refine zad (d:=some 6) ?_); (first | refine boxa HB rfl ?_ | refine boxt HB rfl rfl ?_ | refine box1 HB rfl rfl ?_); clear HB; intro b6 w_ HB; refine Kx.fr ?_) | ((with_reducible refine zaa (d:=some 6) ?_); (first | refine ala HB ?_ | refine al1 HB ?_); clear HB; intro b6 w_ HB; refine Kx.fr ?_) | ((with_reducible refine zad (d:=some 7) ?_); (first | refine boxa HB rfl ?_ | refine boxt HB rfl rfl ?_ | refine box1 HB rfl rfl ?_); clear HB; intro b7 w_ HB; refine Kx.fr ?_) | ((with_reducible refine zaa (d:=some 7) ?_); (first | refine ala HB ?_ | refine al1 HB ?_); clear HB; intro b7 w_ HB; refine Kx.fr ?_) | ((with_reducible refine zad ?_); (first | refine boxa HB rfl ?_ | refine boxt HB rfl rfl ?_ | refine box1 HB rfl rfl ?_); clear HB; intro b_ w_ HB; refine Kx.fr ?_) | ((with_reducible refine zaa ?_); (first | refine ala HB ?_ | refine al1 HB ?_); clear HB; intro b_ w_ HB; refine Kx.fr ?_) | ((with_reducible refine zab ?_); first | refine Kx.l1 HB rfl rfl ?_ | refine Kx.la HB rfl ?_) | ((with_reducible refine zac ?_); first | refine l1g HB rfl rfl rfl ?_ | refine Kx.lag HB rfl rfl ?_) | ((with_reducible refine zae ?_); (first | refine stwa HB rfl rfl ?_ | refine sta HB rfl rfl ?_ | refine Kx.stc HB rfl rfl ?_ | refine Kx.stt HB rfl rfl rfl ?_ | refine Kx.st1 HB rfl rfl rfl ?_); clear HB; intro w_ HB)))
  refine bodyPost_ret (Kx.zb6 HB rfl _ _ _ rfl (by first | (simp <;> rfl) | rfl) (by first | (simp <;> rfl) | rfl)) rfl ?_; exact ⟨by rw [HE.out],HB.out.below⟩
 have c0:(m.k != 11) = false:=by rw [q0]; exact bne_self_eq_false _
 by_cases q3:0 ≤ m.f ∧ m.f ≤ 2 * (f:Int)
 case neg =>
  rw [decide_eq_false q3] at HIA
  have HE:=Lib.hid (zej (f:=f) (L:=L) (h:=⟨he,hn,g,hu⟩) (m:=m) (fun q => q3 ⟨q.2.2.2.1,q.2.2.2.2.1⟩))
  clear hf3 hLi HMO q0 q1 q2 q3
  dsimp only [Ho.cells]
  go_enter Tryz.func24,Tryz.ntmps24
  go_wp2_with (first | ((with_reducible refine zaz ?_); refine Km.wpList_build rfl 66 _ rfl #[(0,.int .i64 m.e),(1,.int .i64 m.n),(2,.int .u64 (g:Int)),(3,.int .i64 hu)] (by first | rfl | (go_simp; try rfl)) [.int .i64 m.e,.int .i64 m.n,.int .u64 (g:Int),.int .i64 hu].toArray (HBU.out) ?_; refine Kx.framed ?_ (by simp only [Act.put,List.setIfInBounds_toArray,List.set_cons_succ,List.set_cons_zero] <;> rfl)) | (go_at_call 46; refine Calls.mono (HIA.out _) ?_; rintro e w_ ⟨rfl,hb_⟩; replace HB:=Lib.hid (HB.out.call hb_); clear hb_) | (first | ((with_reducible refine zah HB ?_); clear HB; intro w_ HB) | ((with_reducible refine zad (d:=some 3) ?_); (first | refine boxa HB rfl ?_ | refine boxt HB rfl rfl ?_ | refine box1 HB rfl rfl ?_); clear HB; intro b3 w_ HB; refine Kx.fr ?_) | ((with_reducible refine zaa (d:=some 3) ?_); (first | refine ala HB ?_ | refine al1 HB ?_); clear HB; intro b3 w_ HB; refine Kx.fr ?_) | ((with_reducible refine zad (d:=some 4) ?_); (first | refine boxa HB rfl ?_ | refine boxt HB rfl rfl ?_ | refine box1 HB rfl rfl ?_); clear HB; intro b4 w_ HB; refine Kx.fr ?_) | ((with_reducible refine zaa (d:=some 4) ?_); (first | refine ala HB ?_ | refine al1 HB ?_); clear HB; intro b4 w_ HB; refine Kx.fr ?_) | ((with_reducible refine zad (d:=some 5) ?_); (first | refine boxa HB rfl ?_ | refine boxt HB rfl rfl ?_ | refine box1 HB rfl rfl ?_); clear HB; intro b5 w_ HB; refine Kx.fr ?_) | ((with_reducible refine zaa (d:=some 5) ?_); (first | refine ala HB ?_ | refine al1 HB ?_); clear HB; intro b5 w_ HB; refine Kx.fr ?_) | ((with_reducible refine zad (d:=some 6) ?_); (first | refine boxa HB rfl ?_ | refine boxt HB rfl rfl ?_ | refine box1 HB rfl rfl ?_); clear HB; intro b6 w_ HB; refine Kx.fr ?_) | ((with_reducible refine zaa (d:=some 6) ?_); (first | refine ala HB ?_ | refine al1 HB ?_); clear HB; intro b6 w_ HB; refine Kx.fr ?_) | ((with_reducible refine zad (d:=some 7) ?_); (first | refine boxa HB rfl ?_ | refine boxt HB rfl rfl ?_ | refine box1 HB rfl rfl ?_); clear HB; intro b7 w_ HB; refine Kx.fr ?_) | ((with_reducible refine zaa (d:=some 7) ?_); (first | refine ala HB ?_ | refine al1 HB ?_); clear HB; intro b7 w_ HB; refine Kx.fr ?_) | ((with_reducible refine zad ?_); (first | refine boxa HB rfl ?_ | refine boxt HB rfl rfl ?_ | refine box1 HB rfl rfl ?_); clear HB; intro b_ w_ HB; refine Kx.fr ?_) | ((with_reducible refine zaa ?_); (first | refine ala HB ?_ | refine al1 HB ?_); clear HB; intro b_ w_ HB; refine Kx.fr ?_) | ((with_reducible refine zab ?_); first | refine Kx.l1 HB rfl rfl ?_ | refine Kx.la HB rfl ?_) | ((with_reducible refine zac ?_); first | refine l1g HB rfl rfl rfl ?_ | refine Kx.lag HB rfl rfl ?_) | ((with_reducible refine zae ?_); (first | refine stwa HB rfl rfl ?_ | refine sta HB rfl rfl ?_ | refine Kx.stc HB rfl rfl ?_ | refine Kx.stt HB rfl rfl rfl ?_ | refine Kx.st1 HB rfl rfl rfl ?_); clear HB; intro w_ HB)))
  refine bodyPost_ret (Kx.zb6 HB rfl _ _ _ rfl (by first | (simp <;> rfl) | rfl) (by first | (simp <;> rfl) | rfl)) rfl ?_; exact ⟨by rw [HE.out],HB.out.below⟩
 rw [decide_eq_true q3] at HIA
 by_cases q5:0 ≤ m.n
 case neg =>
  have c5:decide (m.n < 0) = true:=decide_eq_true (by omega)
  have HE:=Lib.hid (zej (f:=f) (L:=L) (h:=⟨he,hn,g,hu⟩) (m:=m) (fun q => q5 q.2.2.2.2.2.1))
  clear hf3 hLi HMO q0 q1 q2 q3 q5
  dsimp only [Ho.cells]
  go_enter Tryz.func24,Tryz.ntmps24
  go_wp2_with (first | ((with_reducible refine zaz ?_); refine Km.wpList_build rfl 66 _ rfl #[(0,.int .i64 m.e),(1,.int .i64 m.n),(2,.int .u64 (g:Int)),(3,.int .i64 hu)] (by first | rfl | (go_simp; try rfl)) [.int .i64 m.e,.int .i64 m.n,.int .u64 (g:Int),.int .i64 hu].toArray (HBU.out) ?_; refine Kx.framed ?_ (by simp only [Act.put,List.setIfInBounds_toArray,List.set_cons_succ,List.set_cons_zero] <;> rfl)) | (go_at_call 46; refine Calls.mono (HIA.out _) ?_; rintro e w_ ⟨rfl,hb_⟩; replace HB:=Lib.hid (HB.out.call hb_); clear hb_) | (first | ((with_reducible refine zah HB ?_); clear HB; intro w_ HB) | ((with_reducible refine zad (d:=some 3) ?_); (first | refine boxa HB rfl ?_ | refine boxt HB rfl rfl ?_ | refine box1 HB rfl rfl ?_); clear HB; intro b3 w_ HB; refine Kx.fr ?_) | ((with_reducible refine zaa (d:=some 3) ?_); (first | refine ala HB ?_ | refine al1 HB ?_); clear HB; intro b3 w_ HB; refine Kx.fr ?_) | ((with_reducible refine zad (d:=some 4) ?_); (first | refine boxa HB rfl ?_ | refine boxt HB rfl rfl ?_ | refine box1 HB rfl rfl ?_); clear HB; intro b4 w_ HB; refine Kx.fr ?_) | ((with_reducible refine zaa (d:=some 4) ?_); (first | refine ala HB ?_ | refine al1 HB ?_); clear HB; intro b4 w_ HB; refine Kx.fr ?_) | ((with_reducible refine zad (d:=some 5) ?_); (first | refine boxa HB rfl ?_ | refine boxt HB rfl rfl ?_ | refine box1 HB rfl rfl ?_); clear HB; intro b5 w_ HB; refine Kx.fr ?_) | ((with_reducible refine zaa (d:=some 5) ?_); (first | refine ala HB ?_ | refine al1 HB ?_); clear HB; intro b5 w_ HB; refine Kx.fr ?_) | ((with_reducible refine zad (d:=some 6) ?_); (first | refine boxa HB rfl ?_ | refine boxt HB rfl rfl ?_ | refine box1 HB rfl rfl ?_); clear HB; intro b6 w_ HB; refine Kx.fr ?_) | ((with_reducible refine zaa (d:=some 6) ?_); (first | refine ala HB ?_ | refine al1 HB ?_); clear HB; intro b6 w_ HB; refine Kx.fr ?_) | ((with_reducible refine zad (d:=some 7) ?_); (first | refine boxa HB rfl ?_ | refine boxt HB rfl rfl ?_ | refine box1 HB rfl rfl ?_); clear HB; intro b7 w_ HB; refine Kx.fr ?_) | ((with_reducible refine zaa (d:=some 7) ?_); (first | refine ala HB ?_ | refine al1 HB ?_); clear HB; intro b7 w_ HB; refine Kx.fr ?_) | ((with_reducible refine zad ?_); (first | refine boxa HB rfl ?_ | refine boxt HB rfl rfl ?_ | refine box1 HB rfl rfl ?_); clear HB; intro b_ w_ HB; refine Kx.fr ?_) | ((with_reducible refine zaa ?_); (first | refine ala HB ?_ | refine al1 HB ?_); clear HB; intro b_ w_ HB; refine Kx.fr ?_) | ((with_reducible refine zab ?_); first | refine Kx.l1 HB rfl rfl ?_ | refine Kx.la HB rfl ?_) | ((with_reducible refine zac ?_); first | refine l1g HB rfl rfl rfl ?_ | refine Kx.lag HB rfl rfl ?_) | ((with_reducible refine zae ?_); (first | refine stwa HB rfl rfl ?_ | refine sta HB rfl rfl ?_ | refine Kx.stc HB rfl rfl ?_ | refine Kx.stt HB rfl rfl rfl ?_ | refine Kx.st1 HB rfl rfl rfl ?_); clear HB; intro w_ HB)))
  refine bodyPost_ret (Kx.zb6 HB rfl _ _ _ rfl (by first | (simp <;> rfl) | rfl) (by first | (simp <;> rfl) | rfl)) rfl ?_; exact ⟨by rw [HE.out],HB.out.below⟩
 have c5:decide (m.n < 0) = false:=decide_eq_false (by omega)
 by_cases q6:m.n ≤ 1099511627776
 case neg =>
  have c6:decide (1099511627776 < m.n) = true:=decide_eq_true (by omega)
  have HE:=Lib.hid (zej (f:=f) (L:=L) (h:=⟨he,hn,g,hu⟩) (m:=m) (fun q => q6 q.2.2.2.2.2.2))
  clear hf3 hLi HMO q0 q1 q2 q3 q5 q6
  dsimp only [Ho.cells]
  go_enter Tryz.func24,Tryz.ntmps24
  go_wp2_with (first | ((with_reducible refine zaz ?_); refine Km.wpList_build rfl 66 _ rfl #[(0,.int .i64 m.e),(1,.int .i64 m.n),(2,.int .u64 (g:Int)),(3,.int .i64 hu)] (by first | rfl | (go_simp; try rfl)) [.int .i64 m.e,.int .i64 m.n,.int .u64 (g:Int),.int .i64 hu].toArray (HBU.out) ?_; refine Kx.framed ?_ (by simp only [Act.put,List.setIfInBounds_toArray,List.set_cons_succ,List.set_cons_zero] <;> rfl)) | (go_at_call 46; refine Calls.mono (HIA.out _) ?_; rintro e w_ ⟨rfl,hb_⟩; replace HB:=Lib.hid (HB.out.call hb_); clear hb_) | (first | ((with_reducible refine zah HB ?_); clear HB; intro w_ HB) | ((with_reducible refine zad (d:=some 3) ?_); (first | refine boxa HB rfl ?_ | refine boxt HB rfl rfl ?_ | refine box1 HB rfl rfl ?_); clear HB; intro b3 w_ HB; refine Kx.fr ?_) | ((with_reducible refine zaa (d:=some 3) ?_); (first | refine ala HB ?_ | refine al1 HB ?_); clear HB; intro b3 w_ HB; refine Kx.fr ?_) | ((with_reducible refine zad (d:=some 4) ?_); (first | refine boxa HB rfl ?_ | refine boxt HB rfl rfl ?_ | refine box1 HB rfl rfl ?_); clear HB; intro b4 w_ HB; refine Kx.fr ?_) | ((with_reducible refine zaa (d:=some 4) ?_); (first | refine ala HB ?_ | refine al1 HB ?_); clear HB; intro b4 w_ HB; refine Kx.fr ?_) | ((with_reducible refine zad (d:=some 5) ?_); (first | refine boxa HB rfl ?_ | refine boxt HB rfl rfl ?_ | refine box1 HB rfl rfl ?_); clear HB; intro b5 w_ HB; refine Kx.fr ?_) | ((with_reducible refine zaa (d:=some 5) ?_); (first | refine ala HB ?_ | refine al1 HB ?_); clear HB; intro b5 w_ HB; refine Kx.fr ?_) | ((with_reducible refine zad (d:=some 6) ?_); (first | refine boxa HB rfl ?_ | refine boxt HB rfl rfl ?_ | refine box1 HB rfl rfl ?_); clear HB; intro b6 w_ HB; refine Kx.fr ?_) | ((with_reducible refine zaa (d:=some 6) ?_); (first | refine ala HB ?_ | refine al1 HB ?_); clear HB; intro b6 w_ HB; refine Kx.fr ?_) | ((with_reducible refine zad (d:=some 7) ?_); (first | refine boxa HB rfl ?_ | refine boxt HB rfl rfl ?_ | refine box1 HB rfl rfl ?_); clear HB; intro b7 w_ HB; refine Kx.fr ?_) | ((with_reducible refine zaa (d:=some 7) ?_); (first | refine ala HB ?_ | refine al1 HB ?_); clear HB; intro b7 w_ HB; refine Kx.fr ?_) | ((with_reducible refine zad ?_); (first | refine boxa HB rfl ?_ | refine boxt HB rfl rfl ?_ | refine box1 HB rfl rfl ?_); clear HB; intro b_ w_ HB; refine Kx.fr ?_) | ((with_reducible refine zaa ?_); (first | refine ala HB ?_ | refine al1 HB ?_); clear HB; intro b_ w_ HB; refine Kx.fr ?_) | ((with_reducible refine zab ?_); first | refine Kx.l1 HB rfl rfl ?_ | refine Kx.la HB rfl ?_) | ((with_reducible refine zac ?_); first | refine l1g HB rfl rfl rfl ?_ | refine Kx.lag HB rfl rfl ?_) | ((with_reducible refine zae ?_); (first | refine stwa HB rfl rfl ?_ | refine sta HB rfl rfl ?_ | refine Kx.stc HB rfl rfl ?_ | refine Kx.stt HB rfl rfl rfl ?_ | refine Kx.st1 HB rfl rfl rfl ?_); clear HB; intro w_ HB)))
  refine bodyPost_ret (Kx.zb6 HB rfl _ _ _ rfl (by first | (simp <;> rfl) | rfl) (by first | (simp <;> rfl) | rfl)) rfl ?_; exact ⟨by rw [HE.out],HB.out.below⟩
 have c6:decide (1099511627776 < m.n) = false:=decide_eq_false (by omega)
 have hG:zdl f (⟨he,hn,g,hu⟩ : Ho) m:=⟨q0,q1,q2,q3.1,q3.2,q5,q6⟩
 obtain ⟨k,hk,hk7⟩:=hG.from hf3
 rw [hk] at HIA
 have hor:=or_bit hg64 (show k < 64 by omega)
 have hmin:min k 64 = k:=by omega
 have hGl:=znt hg64 (show k < 64 by omega)
 have HBI:Hid (zo0 (g:Int) m.f = ((g ||| 2 ^ k:Nat):Int)):=Lib.hid (by rw [hk]; rfl)
 generalize g ||| 2 ^ k = G at *
 have HMG:=Lib.hid (fun W => HMO.out G W hGl)
 obtain ⟨mb,hmb⟩ : ∃ mb,Om.most f G = mb:=⟨_,rfl⟩
 rw [hmb] at HMG
 obtain ⟨s,hs⟩ : ∃ s:Int,m.n + L = s:=⟨_,rfl⟩
 have hws:IntKind.i64.wrap (m.n + L) = s:=by rw [←hs,IntKind.wrap_i64]; omega
 obtain ⟨u,hu2⟩ : ∃ u:Int,(if hu < s then s else hu) = u:=⟨_,rfl⟩
 have HE:Hid (ze7 f L ⟨he,hn,g,hu⟩ m = if mb = true then (⟨m.e,m.n,(G:Int),u⟩ : Ho) else ⟨m.e,m.n,(G:Int),hu⟩):=Lib.hid (by unfold ze7; rw [if_pos hG]; dsimp only; rw [HBI.out,Int.toNat_natCast,hmb,←q2,←q1,hs,hu2])
 clear hf3 hLi HMO q0 q1 q2 q3 q5 q6 hG hk7 hg64 hGl HBI hmb hs
 dsimp only [Ho.cells]
 go_enter Tryz.func24,Tryz.ntmps24
 go_upto_region 4 with (first | ((with_reducible refine zaz ?_); refine Km.wpList_build rfl 66 _ rfl #[(0,.int .i64 m.e),(1,.int .i64 m.n),(2,.int .u64 (g:Int)),(3,.int .i64 hu)] (by first | rfl | (go_simp; try rfl)) [.int .i64 m.e,.int .i64 m.n,.int .u64 (g:Int),.int .i64 hu].toArray (HBU.out) ?_; refine Kx.framed ?_ (by simp only [Act.put,List.setIfInBounds_toArray,List.set_cons_succ,List.set_cons_zero] <;> rfl)) | (go_at_call 46; refine Calls.mono (HIA.out _) ?_; rintro e w_ ⟨rfl,hb_⟩; replace HB:=Lib.hid (HB.out.call hb_); clear hb_) | (first | ((with_reducible refine zah HB ?_); clear HB; intro w_ HB) | ((with_reducible refine zad (d:=some 3) ?_); (first | refine boxa HB rfl ?_ | refine boxt HB rfl rfl ?_ | refine box1 HB rfl rfl ?_); clear HB; intro b3 w_ HB; refine Kx.fr ?_) | ((with_reducible refine zaa (d:=some 3) ?_); (first | refine ala HB ?_ | refine al1 HB ?_); clear HB; intro b3 w_ HB; refine Kx.fr ?_) | ((with_reducible refine zad (d:=some 4) ?_); (first | refine boxa HB rfl ?_ | refine boxt HB rfl rfl ?_ | refine box1 HB rfl rfl ?_); clear HB; intro b4 w_ HB; refine Kx.fr ?_) | ((with_reducible refine zaa (d:=some 4) ?_); (first | refine ala HB ?_ | refine al1 HB ?_); clear HB; intro b4 w_ HB; refine Kx.fr ?_) | ((with_reducible refine zad (d:=some 5) ?_); (first | refine boxa HB rfl ?_ | refine boxt HB rfl rfl ?_ | refine box1 HB rfl rfl ?_); clear HB; intro b5 w_ HB; refine Kx.fr ?_) | ((with_reducible refine zaa (d:=some 5) ?_); (first | refine ala HB ?_ | refine al1 HB ?_); clear HB; intro b5 w_ HB; refine Kx.fr ?_) | ((with_reducible refine zad (d:=some 6) ?_); (first | refine boxa HB rfl ?_ | refine boxt HB rfl rfl ?_ | refine box1 HB rfl rfl ?_); clear HB; intro b6 w_ HB; refine Kx.fr ?_) | ((with_reducible refine zaa (d:=some 6) ?_); (first | refine ala HB ?_ | refine al1 HB ?_); clear HB; intro b6 w_ HB; refine Kx.fr ?_) | ((with_reducible refine zad (d:=some 7) ?_); (first | refine boxa HB rfl ?_ | refine boxt HB rfl rfl ?_ | refine box1 HB rfl rfl ?_); clear HB; intro b7 w_ HB; refine Kx.fr ?_) | ((with_reducible refine zaa (d:=some 7) ?_); (first | refine ala HB ?_ | refine al1 HB ?_); clear HB; intro b7 w_ HB; refine Kx.fr ?_) | ((with_reducible refine zad ?_); (first | refine boxa HB rfl ?_ | refine boxt HB rfl rfl ?_ | refine box1 HB rfl rfl ?_); clear HB; intro b_ w_ HB; refine Kx.fr ?_) | ((with_reducible refine zaa ?_); (first | refine ala HB ?_ | refine al1 HB ?_); clear HB; intro b_ w_ HB; refine Kx.fr ?_) | ((with_reducible refine zab ?_); first | refine Kx.l1 HB rfl rfl ?_ | refine Kx.la HB rfl ?_) | ((with_reducible refine zac ?_); first | refine l1g HB rfl rfl rfl ?_ | refine Kx.lag HB rfl rfl ?_) | ((with_reducible refine zae ?_); (first | refine stwa HB rfl rfl ?_ | refine sta HB rfl rfl ?_ | refine Kx.stc HB rfl rfl ?_ | refine Kx.stt HB rfl rfl rfl ?_ | refine Kx.st1 HB rfl rfl rfl ?_); clear HB; intro w_ HB)))
 simp only [Mg.cells,Pq.cells,Ks.Sl.val,List.cons_append,List.nil_append] at HB
 refine zam HB (fun i => i == 7) (by kernel_rfl) ?_
 refine Kx.tk 0 rfl ?_
 first | refine xl1 1 rfl rfl rfl ?_ | refine xla 1 rfl rfl ?_
 refine Kx.tk 2 rfl ?_
 first | refine xl1 3 rfl rfl rfl ?_ | refine xla 3 rfl rfl ?_
 refine Kx.tk 4 rfl ?_
 refine Kx.tk 5 rfl ?_
 refine Kx.tk 6 rfl ?_
 first | (refine zao (i:=7) rfl (by kernel_rfl) (by kernel_rfl) (by rfl) rfl _ _ _ rfl _ rfl _ rfl _ (by rfl) (fun w => (Tryz.sizeOf66 w)) (by rfl) ?_) | (refine zao (i:=7) rfl (by kernel_rfl) (by kernel_rfl) (by rfl) rfl _ _ _ rfl _ rfl _ rfl _ (by rfl) (fun w => (Tryz.sizeOf24 w)) (by rfl) ?_) | (refine zao (i:=7) rfl (by kernel_rfl) (by kernel_rfl) (by rfl) rfl _ _ _ rfl _ rfl _ rfl _ (by rfl) (fun w => (Tryz.sizeOf37 w)) (by rfl) ?_) | (refine zao (i:=7) rfl (by kernel_rfl) (by kernel_rfl) (by rfl) rfl _ _ _ rfl _ rfl _ rfl _ (by rfl) (fun w => (Tryz.sizeOf32 w)) (by rfl) ?_) | (refine zao (i:=7) rfl (by kernel_rfl) (by kernel_rfl) (by rfl) rfl _ _ _ rfl _ rfl _ rfl _ (by rfl) (fun w => (Tryz.sizeOf3 w)) (by rfl) ?_) | (refine zat (i:=7) rfl (by kernel_rfl) (by kernel_rfl) (by rfl) rfl _ _ _ rfl _ rfl _ rfl _ _ (by simp [Kx.splice] <;> rfl) (by simp) (fun w => (Tryz.sizeOf66 w)) (by rfl) ?_) | (refine zat (i:=7) rfl (by kernel_rfl) (by kernel_rfl) (by rfl) rfl _ _ _ rfl _ rfl _ rfl _ _ (by simp [Kx.splice] <;> rfl) (by simp) (fun w => (Tryz.sizeOf24 w)) (by rfl) ?_) | (refine zat (i:=7) rfl (by kernel_rfl) (by kernel_rfl) (by rfl) rfl _ _ _ rfl _ rfl _ rfl _ _ (by simp [Kx.splice] <;> rfl) (by simp) (fun w => (Tryz.sizeOf37 w)) (by rfl) ?_) | (refine zat (i:=7) rfl (by kernel_rfl) (by kernel_rfl) (by rfl) rfl _ _ _ rfl _ rfl _ rfl _ _ (by simp [Kx.splice] <;> rfl) (by simp) (fun w => (Tryz.sizeOf32 w)) (by rfl) ?_) | (refine zat (i:=7) rfl (by kernel_rfl) (by kernel_rfl) (by rfl) rfl _ _ _ rfl _ rfl _ rfl _ _ (by simp [Kx.splice] <;> rfl) (by simp) (fun w => (Tryz.sizeOf3 w)) (by rfl) ?_) | (refine zas (i:=7) rfl (by kernel_rfl) (by kernel_rfl) (by rfl) rfl _ _ _ rfl _ rfl rfl _ _ (by simp <;> rfl) (by simp) (fun w => (Tryz.sizeOf66 w)) ?_) | (refine zas (i:=7) rfl (by kernel_rfl) (by kernel_rfl) (by rfl) rfl _ _ _ rfl _ rfl rfl _ _ (by simp <;> rfl) (by simp) (fun w => (Tryz.sizeOf24 w)) ?_) | (refine zas (i:=7) rfl (by kernel_rfl) (by kernel_rfl) (by rfl) rfl _ _ _ rfl _ rfl rfl _ _ (by simp <;> rfl) (by simp) (fun w => (Tryz.sizeOf37 w)) ?_) | (refine zas (i:=7) rfl (by kernel_rfl) (by kernel_rfl) (by rfl) rfl _ _ _ rfl _ rfl rfl _ _ (by simp <;> rfl) (by simp) (fun w => (Tryz.sizeOf32 w)) ?_) | (refine zas (i:=7) rfl (by kernel_rfl) (by kernel_rfl) (by rfl) rfl _ _ _ rfl _ rfl rfl _ _ (by simp <;> rfl) (by simp) (fun w => (Tryz.sizeOf3 w)) ?_) | (refine zar (i:=7) rfl (by kernel_rfl) (by kernel_rfl) (by rfl) rfl _ _ _ rfl _ rfl _ rfl rfl _ _ (by simp <;> rfl) (by simp) (fun w => (Tryz.sizeOf66 w)) ?_) | (refine zar (i:=7) rfl (by kernel_rfl) (by kernel_rfl) (by rfl) rfl _ _ _ rfl _ rfl _ rfl rfl _ _ (by simp <;> rfl) (by simp) (fun w => (Tryz.sizeOf24 w)) ?_) | (refine zar (i:=7) rfl (by kernel_rfl) (by kernel_rfl) (by rfl) rfl _ _ _ rfl _ rfl _ rfl rfl _ _ (by simp <;> rfl) (by simp) (fun w => (Tryz.sizeOf37 w)) ?_) | (refine zar (i:=7) rfl (by kernel_rfl) (by kernel_rfl) (by rfl) rfl _ _ _ rfl _ rfl _ rfl rfl _ _ (by simp <;> rfl) (by simp) (fun w => (Tryz.sizeOf32 w)) ?_) | (refine zar (i:=7) rfl (by kernel_rfl) (by kernel_rfl) (by rfl) rfl _ _ _ rfl _ rfl _ rfl rfl _ _ (by simp <;> rfl) (by simp) (fun w => (Tryz.sizeOf3 w)) ?_)
 refine zaj (by kernel_rfl) ?_
 clear HB
 intro w_ HB_
 have HB:=Lib.hid HB_
 clear HB_
 cases mb with
 | false =>
   go_wp2_with (first | (go_at_call 42; refine Calls.mono (HMG.out _) ?_; rintro e w_ ⟨rfl,hb_⟩; replace HB:=Lib.hid (HB.out.call hb_); clear hb_) | (first | ((with_reducible refine zah HB ?_); clear HB; intro w_ HB) | ((with_reducible refine zab ?_); first | (refine Kx.zau HB rfl _ _ rfl _ rfl _ (Tryz.isAgg4 _) _ rfl (Kx.framed ?_ (by simp only [Act.put,List.setIfInBounds_toArray,List.set_cons_succ,List.set_cons_zero] <;> rfl))) | (refine Kx.zau HB rfl _ _ rfl _ rfl _ (Tryz.isAgg3 _) _ rfl (Kx.framed ?_ (by simp only [Act.put,List.setIfInBounds_toArray,List.set_cons_succ,List.set_cons_zero] <;> rfl))) | (refine Kx.zau HB rfl _ _ rfl _ rfl _ (Tryz.isAgg2 _) _ rfl (Kx.framed ?_ (by simp only [Act.put,List.setIfInBounds_toArray,List.set_cons_succ,List.set_cons_zero] <;> rfl))) | (refine Kx.zau HB rfl _ _ rfl _ rfl _ (Tryz.isAgg32 _) _ rfl (Kx.framed ?_ (by simp only [Act.put,List.setIfInBounds_toArray,List.set_cons_succ,List.set_cons_zero] <;> rfl))) | (refine Kx.za2 HB rfl _ _ rfl _ rfl _ _ (Tryz.isAgg66 _) (Tryz.sizeOf66 _) _ (by first | exact Kx.whole (by rfl) | (simp <;> rfl)) (by rfl) (Kx.framed ?_ (by simp only [Act.put,List.setIfInBounds_toArray,List.set_cons_succ,List.set_cons_zero] <;> rfl))) | (refine Kx.za2 HB rfl _ _ rfl _ rfl _ _ (Tryz.isAgg24 _) (Tryz.sizeOf24 _) _ (by first | exact Kx.whole (by rfl) | (simp <;> rfl)) (by rfl) (Kx.framed ?_ (by simp only [Act.put,List.setIfInBounds_toArray,List.set_cons_succ,List.set_cons_zero] <;> rfl))) | (refine Kx.za2 HB rfl _ _ rfl _ rfl _ _ (Tryz.isAgg37 _) (Tryz.sizeOf37 _) _ (by first | exact Kx.whole (by rfl) | (simp <;> rfl)) (by rfl) (Kx.framed ?_ (by simp only [Act.put,List.setIfInBounds_toArray,List.set_cons_succ,List.set_cons_zero] <;> rfl)))) | ((with_reducible refine zac ?_); first | (refine Kx.zav HB _ _ rfl _ rfl _ (Tryz.isAgg4 _) _ rfl rfl (Kx.framed ?_ (by simp only [Act.put,List.setIfInBounds_toArray,List.set_cons_succ,List.set_cons_zero] <;> rfl))) | (refine Kx.zav HB _ _ rfl _ rfl _ (Tryz.isAgg3 _) _ rfl rfl (Kx.framed ?_ (by simp only [Act.put,List.setIfInBounds_toArray,List.set_cons_succ,List.set_cons_zero] <;> rfl))) | (refine Kx.zav HB _ _ rfl _ rfl _ (Tryz.isAgg2 _) _ rfl rfl (Kx.framed ?_ (by simp only [Act.put,List.setIfInBounds_toArray,List.set_cons_succ,List.set_cons_zero] <;> rfl))) | (refine Kx.zav HB _ _ rfl _ rfl _ (Tryz.isAgg32 _) _ rfl rfl (Kx.framed ?_ (by simp only [Act.put,List.setIfInBounds_toArray,List.set_cons_succ,List.set_cons_zero] <;> rfl)))) | ((with_reducible refine zae ?_); first | (refine Kx.zbh HB rfl rfl _ _ _ rfl _ rfl _ rfl _ _ (by simp [Kx.splice] <;> rfl) (by simp) (by simp <;> rfl) (by rfl) ?_; clear HB; intro w_ HB) | (refine Kx.zbc HB rfl rfl _ _ _ rfl _ rfl _ rfl _ (by rfl) (by simp <;> rfl) (by rfl) ?_; clear HB; intro w_ HB) | (refine Kx.zbg HB rfl rfl _ _ _ rfl _ rfl _ rfl rfl _ _ (by simp <;> rfl) (by simp) (by simp <;> rfl) ?_; clear HB; intro w_ HB) | (refine Kx.za5 HB rfl rfl _ _ _ rfl _ rfl _ rfl rfl _ _ (by simp <;> rfl) (by simp) (by simp <;> rfl) ?_; clear HB; intro w_ HB))))
   refine bodyPost_ret (Kx.zb6 HB rfl _ _ _ rfl (by first | (simp <;> rfl) | rfl) (by first | (simp <;> rfl) | rfl)) rfl ?_; exact ⟨by rw [HE.out]; rfl,HB.out.below⟩
 | true =>
   go_upto_region 6 with (first | (go_at_call 42; refine Calls.mono (HMG.out _) ?_; rintro e w_ ⟨rfl,hb_⟩; replace HB:=Lib.hid (HB.out.call hb_); clear hb_) | (first | ((with_reducible refine zah HB ?_); clear HB; intro w_ HB) | ((with_reducible refine zab ?_); first | (refine Kx.zau HB rfl _ _ rfl _ rfl _ (Tryz.isAgg4 _) _ rfl (Kx.framed ?_ (by simp only [Act.put,List.setIfInBounds_toArray,List.set_cons_succ,List.set_cons_zero] <;> rfl))) | (refine Kx.zau HB rfl _ _ rfl _ rfl _ (Tryz.isAgg3 _) _ rfl (Kx.framed ?_ (by simp only [Act.put,List.setIfInBounds_toArray,List.set_cons_succ,List.set_cons_zero] <;> rfl))) | (refine Kx.zau HB rfl _ _ rfl _ rfl _ (Tryz.isAgg2 _) _ rfl (Kx.framed ?_ (by simp only [Act.put,List.setIfInBounds_toArray,List.set_cons_succ,List.set_cons_zero] <;> rfl))) | (refine Kx.zau HB rfl _ _ rfl _ rfl _ (Tryz.isAgg32 _) _ rfl (Kx.framed ?_ (by simp only [Act.put,List.setIfInBounds_toArray,List.set_cons_succ,List.set_cons_zero] <;> rfl))) | (refine Kx.za2 HB rfl _ _ rfl _ rfl _ _ (Tryz.isAgg66 _) (Tryz.sizeOf66 _) _ (by first | exact Kx.whole (by rfl) | (simp <;> rfl)) (by rfl) (Kx.framed ?_ (by simp only [Act.put,List.setIfInBounds_toArray,List.set_cons_succ,List.set_cons_zero] <;> rfl))) | (refine Kx.za2 HB rfl _ _ rfl _ rfl _ _ (Tryz.isAgg24 _) (Tryz.sizeOf24 _) _ (by first | exact Kx.whole (by rfl) | (simp <;> rfl)) (by rfl) (Kx.framed ?_ (by simp only [Act.put,List.setIfInBounds_toArray,List.set_cons_succ,List.set_cons_zero] <;> rfl))) | (refine Kx.za2 HB rfl _ _ rfl _ rfl _ _ (Tryz.isAgg37 _) (Tryz.sizeOf37 _) _ (by first | exact Kx.whole (by rfl) | (simp <;> rfl)) (by rfl) (Kx.framed ?_ (by simp only [Act.put,List.setIfInBounds_toArray,List.set_cons_succ,List.set_cons_zero] <;> rfl)))) | ((with_reducible refine zac ?_); first | (refine Kx.zav HB _ _ rfl _ rfl _ (Tryz.isAgg4 _) _ rfl rfl (Kx.framed ?_ (by simp only [Act.put,List.setIfInBounds_toArray,List.set_cons_succ,List.set_cons_zero] <;> rfl))) | (refine Kx.zav HB _ _ rfl _ rfl _ (Tryz.isAgg3 _) _ rfl rfl (Kx.framed ?_ (by simp only [Act.put,List.setIfInBounds_toArray,List.set_cons_succ,List.set_cons_zero] <;> rfl))) | (refine Kx.zav HB _ _ rfl _ rfl _ (Tryz.isAgg2 _) _ rfl rfl (Kx.framed ?_ (by simp only [Act.put,List.setIfInBounds_toArray,List.set_cons_succ,List.set_cons_zero] <;> rfl))) | (refine Kx.zav HB _ _ rfl _ rfl _ (Tryz.isAgg32 _) _ rfl rfl (Kx.framed ?_ (by simp only [Act.put,List.setIfInBounds_toArray,List.set_cons_succ,List.set_cons_zero] <;> rfl)))) | ((with_reducible refine zae ?_); first | (refine Kx.zbh HB rfl rfl _ _ _ rfl _ rfl _ rfl _ _ (by simp [Kx.splice] <;> rfl) (by simp) (by simp <;> rfl) (by rfl) ?_; clear HB; intro w_ HB) | (refine Kx.zbc HB rfl rfl _ _ _ rfl _ rfl _ rfl _ (by rfl) (by simp <;> rfl) (by rfl) ?_; clear HB; intro w_ HB) | (refine Kx.zbg HB rfl rfl _ _ _ rfl _ rfl _ rfl rfl _ _ (by simp <;> rfl) (by simp) (by simp <;> rfl) ?_; clear HB; intro w_ HB) | (refine Kx.za5 HB rfl rfl _ _ _ rfl _ rfl _ rfl rfl _ _ (by simp <;> rfl) (by simp) (by simp <;> rfl) ?_; clear HB; intro w_ HB))))
   refine zam HB (fun i => i == 9) (by kernel_rfl) ?_
   refine Kx.tk 0 rfl ?_
   first | refine xl1 1 rfl rfl rfl ?_ | refine xla 1 rfl rfl ?_
   refine Kx.tk 2 rfl ?_
   first | refine xl1 3 rfl rfl rfl ?_ | refine xla 3 rfl rfl ?_
   first | refine xl1 4 rfl rfl rfl ?_ | refine xla 4 rfl rfl ?_
   refine zci (i:=5) (v:=?v5_1) (f:=?g5_1) (args:=?s5_1) (a':=?a5_1) (by first | exact Kx.za8 | exact zcr | assumption) rfl (by kernel_rfl) (by kernel_rfl) (by kernel_rfl) (fun _ _ _ h => h) (by kernel_rfl) ?c5_1 ?w5_1 ?y5_1 ?f5_1 ?r5_1
   case w5_1 => kernel_rfl
   case y5_1 => (intro W hW; go_simp; first | (refine ⟨?_,?_⟩ <;> with_reducible rfl) | with_reducible rfl)
   case c5_1 => (intro W hW; refine Calls.mono (HLN.out W) ?_; rintro e w_ ⟨rfl,hb_⟩; refine ⟨?_,by first | exact hb_ | exact hb_ ▸ Below.refl _ _⟩; with_reducible rfl)
   case f5_1 => (go_simp; try with_reducible rfl)
   refine Kx.tk 6 rfl ?_
   refine Kx.tk 7 rfl ?_
   refine Kx.tk 8 rfl ?_
   first | (refine zao (i:=9) rfl (by kernel_rfl) (by kernel_rfl) (by rfl) rfl _ _ _ rfl _ rfl _ rfl _ (by rfl) (fun w => (Tryz.sizeOf66 w)) (by rfl) ?_) | (refine zao (i:=9) rfl (by kernel_rfl) (by kernel_rfl) (by rfl) rfl _ _ _ rfl _ rfl _ rfl _ (by rfl) (fun w => (Tryz.sizeOf24 w)) (by rfl) ?_) | (refine zao (i:=9) rfl (by kernel_rfl) (by kernel_rfl) (by rfl) rfl _ _ _ rfl _ rfl _ rfl _ (by rfl) (fun w => (Tryz.sizeOf37 w)) (by rfl) ?_) | (refine zao (i:=9) rfl (by kernel_rfl) (by kernel_rfl) (by rfl) rfl _ _ _ rfl _ rfl _ rfl _ (by rfl) (fun w => (Tryz.sizeOf2 w)) (by rfl) ?_) | (refine zao (i:=9) rfl (by kernel_rfl) (by kernel_rfl) (by rfl) rfl _ _ _ rfl _ rfl _ rfl _ (by rfl) (fun w => (Tryz.sizeOf32 w)) (by rfl) ?_) | (refine zao (i:=9) rfl (by kernel_rfl) (by kernel_rfl) (by rfl) rfl _ _ _ rfl _ rfl _ rfl _ (by rfl) (fun w => (Tryz.sizeOf3 w)) (by rfl) ?_) | (refine zat (i:=9) rfl (by kernel_rfl) (by kernel_rfl) (by rfl) rfl _ _ _ rfl _ rfl _ rfl _ _ (by simp [Kx.splice] <;> rfl) (by simp) (fun w => (Tryz.sizeOf66 w)) (by rfl) ?_) | (refine zat (i:=9) rfl (by kernel_rfl) (by kernel_rfl) (by rfl) rfl _ _ _ rfl _ rfl _ rfl _ _ (by simp [Kx.splice] <;> rfl) (by simp) (fun w => (Tryz.sizeOf24 w)) (by rfl) ?_) | (refine zat (i:=9) rfl (by kernel_rfl) (by kernel_rfl) (by rfl) rfl _ _ _ rfl _ rfl _ rfl _ _ (by simp [Kx.splice] <;> rfl) (by simp) (fun w => (Tryz.sizeOf37 w)) (by rfl) ?_) | (refine zat (i:=9) rfl (by kernel_rfl) (by kernel_rfl) (by rfl) rfl _ _ _ rfl _ rfl _ rfl _ _ (by simp [Kx.splice] <;> rfl) (by simp) (fun w => (Tryz.sizeOf2 w)) (by rfl) ?_) | (refine zat (i:=9) rfl (by kernel_rfl) (by kernel_rfl) (by rfl) rfl _ _ _ rfl _ rfl _ rfl _ _ (by simp [Kx.splice] <;> rfl) (by simp) (fun w => (Tryz.sizeOf32 w)) (by rfl) ?_) | (refine zat (i:=9) rfl (by kernel_rfl) (by kernel_rfl) (by rfl) rfl _ _ _ rfl _ rfl _ rfl _ _ (by simp [Kx.splice] <;> rfl) (by simp) (fun w => (Tryz.sizeOf3 w)) (by rfl) ?_) | (refine zas (i:=9) rfl (by kernel_rfl) (by kernel_rfl) (by rfl) rfl _ _ _ rfl _ rfl rfl _ _ (by simp <;> rfl) (by simp) (fun w => (Tryz.sizeOf66 w)) ?_) | (refine zas (i:=9) rfl (by kernel_rfl) (by kernel_rfl) (by rfl) rfl _ _ _ rfl _ rfl rfl _ _ (by simp <;> rfl) (by simp) (fun w => (Tryz.sizeOf24 w)) ?_) | (refine zas (i:=9) rfl (by kernel_rfl) (by kernel_rfl) (by rfl) rfl _ _ _ rfl _ rfl rfl _ _ (by simp <;> rfl) (by simp) (fun w => (Tryz.sizeOf37 w)) ?_) | (refine zas (i:=9) rfl (by kernel_rfl) (by kernel_rfl) (by rfl) rfl _ _ _ rfl _ rfl rfl _ _ (by simp <;> rfl) (by simp) (fun w => (Tryz.sizeOf2 w)) ?_) | (refine zas (i:=9) rfl (by kernel_rfl) (by kernel_rfl) (by rfl) rfl _ _ _ rfl _ rfl rfl _ _ (by simp <;> rfl) (by simp) (fun w => (Tryz.sizeOf32 w)) ?_) | (refine zas (i:=9) rfl (by kernel_rfl) (by kernel_rfl) (by rfl) rfl _ _ _ rfl _ rfl rfl _ _ (by simp <;> rfl) (by simp) (fun w => (Tryz.sizeOf3 w)) ?_) | (refine zar (i:=9) rfl (by kernel_rfl) (by kernel_rfl) (by rfl) rfl _ _ _ rfl _ rfl _ rfl rfl _ _ (by simp <;> rfl) (by simp) (fun w => (Tryz.sizeOf66 w)) ?_) | (refine zar (i:=9) rfl (by kernel_rfl) (by kernel_rfl) (by rfl) rfl _ _ _ rfl _ rfl _ rfl rfl _ _ (by simp <;> rfl) (by simp) (fun w => (Tryz.sizeOf24 w)) ?_) | (refine zar (i:=9) rfl (by kernel_rfl) (by kernel_rfl) (by rfl) rfl _ _ _ rfl _ rfl _ rfl rfl _ _ (by simp <;> rfl) (by simp) (fun w => (Tryz.sizeOf37 w)) ?_) | (refine zar (i:=9) rfl (by kernel_rfl) (by kernel_rfl) (by rfl) rfl _ _ _ rfl _ rfl _ rfl rfl _ _ (by simp <;> rfl) (by simp) (fun w => (Tryz.sizeOf2 w)) ?_) | (refine zar (i:=9) rfl (by kernel_rfl) (by kernel_rfl) (by rfl) rfl _ _ _ rfl _ rfl _ rfl rfl _ _ (by simp <;> rfl) (by simp) (fun w => (Tryz.sizeOf32 w)) ?_) | (refine zar (i:=9) rfl (by kernel_rfl) (by kernel_rfl) (by rfl) rfl _ _ _ rfl _ rfl _ rfl rfl _ _ (by simp <;> rfl) (by simp) (fun w => (Tryz.sizeOf3 w)) ?_)
   refine zaj (by kernel_rfl) ?_
   clear HB
   intro w_ HB_
   have HB:=Lib.hid HB_
   clear HB_
   go_wp2_with (first | (go_at_call 42; refine Calls.mono (HMG.out _) ?_; rintro e w_ ⟨rfl,hb_⟩; replace HB:=Lib.hid (HB.out.call hb_); clear hb_) | (first | ((with_reducible refine zah HB ?_); clear HB; intro w_ HB) | ((with_reducible refine zab ?_); first | (refine Kx.zau HB rfl _ _ rfl _ rfl _ (Tryz.isAgg4 _) _ rfl (Kx.framed ?_ (by simp only [Act.put,List.setIfInBounds_toArray,List.set_cons_succ,List.set_cons_zero] <;> rfl))) | (refine Kx.zau HB rfl _ _ rfl _ rfl _ (Tryz.isAgg3 _) _ rfl (Kx.framed ?_ (by simp only [Act.put,List.setIfInBounds_toArray,List.set_cons_succ,List.set_cons_zero] <;> rfl))) | (refine Kx.zau HB rfl _ _ rfl _ rfl _ (Tryz.isAgg2 _) _ rfl (Kx.framed ?_ (by simp only [Act.put,List.setIfInBounds_toArray,List.set_cons_succ,List.set_cons_zero] <;> rfl))) | (refine Kx.zau HB rfl _ _ rfl _ rfl _ (Tryz.isAgg32 _) _ rfl (Kx.framed ?_ (by simp only [Act.put,List.setIfInBounds_toArray,List.set_cons_succ,List.set_cons_zero] <;> rfl))) | (refine Kx.za2 HB rfl _ _ rfl _ rfl _ _ (Tryz.isAgg66 _) (Tryz.sizeOf66 _) _ (by first | exact Kx.whole (by rfl) | (simp <;> rfl)) (by rfl) (Kx.framed ?_ (by simp only [Act.put,List.setIfInBounds_toArray,List.set_cons_succ,List.set_cons_zero] <;> rfl))) | (refine Kx.za2 HB rfl _ _ rfl _ rfl _ _ (Tryz.isAgg24 _) (Tryz.sizeOf24 _) _ (by first | exact Kx.whole (by rfl) | (simp <;> rfl)) (by rfl) (Kx.framed ?_ (by simp only [Act.put,List.setIfInBounds_toArray,List.set_cons_succ,List.set_cons_zero] <;> rfl))) | (refine Kx.za2 HB rfl _ _ rfl _ rfl _ _ (Tryz.isAgg37 _) (Tryz.sizeOf37 _) _ (by first | exact Kx.whole (by rfl) | (simp <;> rfl)) (by rfl) (Kx.framed ?_ (by simp only [Act.put,List.setIfInBounds_toArray,List.set_cons_succ,List.set_cons_zero] <;> rfl)))) | ((with_reducible refine zac ?_); first | (refine Kx.zav HB _ _ rfl _ rfl _ (Tryz.isAgg4 _) _ rfl rfl (Kx.framed ?_ (by simp only [Act.put,List.setIfInBounds_toArray,List.set_cons_succ,List.set_cons_zero] <;> rfl))) | (refine Kx.zav HB _ _ rfl _ rfl _ (Tryz.isAgg3 _) _ rfl rfl (Kx.framed ?_ (by simp only [Act.put,List.setIfInBounds_toArray,List.set_cons_succ,List.set_cons_zero] <;> rfl))) | (refine Kx.zav HB _ _ rfl _ rfl _ (Tryz.isAgg2 _) _ rfl rfl (Kx.framed ?_ (by simp only [Act.put,List.setIfInBounds_toArray,List.set_cons_succ,List.set_cons_zero] <;> rfl))) | (refine Kx.zav HB _ _ rfl _ rfl _ (Tryz.isAgg32 _) _ rfl rfl (Kx.framed ?_ (by simp only [Act.put,List.setIfInBounds_toArray,List.set_cons_succ,List.set_cons_zero] <;> rfl)))) | ((with_reducible refine zae ?_); first | (refine Kx.zbh HB rfl rfl _ _ _ rfl _ rfl _ rfl _ _ (by simp [Kx.splice] <;> rfl) (by simp) (by simp <;> rfl) (by rfl) ?_; clear HB; intro w_ HB) | (refine Kx.zbc HB rfl rfl _ _ _ rfl _ rfl _ rfl _ (by rfl) (by simp <;> rfl) (by rfl) ?_; clear HB; intro w_ HB) | (refine Kx.zbg HB rfl rfl _ _ _ rfl _ rfl _ rfl rfl _ _ (by simp <;> rfl) (by simp) (by simp <;> rfl) ?_; clear HB; intro w_ HB) | (refine Kx.za5 HB rfl rfl _ _ _ rfl _ rfl _ rfl rfl _ _ (by simp <;> rfl) (by simp) (by simp <;> rfl) ?_; clear HB; intro w_ HB))))
   refine bodyPost_ret (Kx.zb6 HB rfl _ _ _ rfl (by first | (simp <;> rfl) | rfl) (by first | (simp <;> rfl) | rfl)) rfl ?_; exact ⟨by rw [HE.out]; rfl,HB.out.below⟩
end Go.Proofs.YtponpgcpmlcdpaaGreatDoor

namespace Go.Proofs.YtponpgcpmlcdpaaGreatDoor
open Go.RowKit Go.Shelf Km Kx Kc
set_option linter.unusedVariables false
def gm (f e n:Int):Mg:=⟨11,f,0,e,0,0,n,0,0,0,false,Pq.zero,Ks.Sl.nil,Ks.Sl.nil,Ks.Sl.nil⟩
theorem znl (f e n:Int):Tryz.prog.built 37 [(0,.int .i64 11),(1,.int .i64 f),(3,.int .i64 e),(6,.int .i64 n)] = some (gm f e n).cells.toArray:=by kernel_rfl
theorem ho_built:Tryz.prog.built 66 [] = some (⟨0,0,0,0⟩ : Ho).cells.toArray:=by kernel_rfl
theorem estep1:ze7 1 20 ⟨1,5,0,0⟩ (gm 0 1 5) = ⟨1,5,1,0⟩:=rfl
theorem estep2:ze7 1 20 ⟨1,5,1,0⟩ (gm 2 1 5) = ⟨1,5,5,25⟩:=rfl
set_option maxRecDepth 100000 in
set_option maxHeartbeats 2000000 in
theorem zk8 (w:World):Calls Tryz.prog 22 #[] w fun e w' => e = .returned (.bool true) ∧ Below w.heap.size w w':=by
 have HB:=Lib.hid (Bxs.start w)
 go_enter Tryz.func22,Tryz.ntmps22
 go_wp2_with (go_at_call 16; fail)
 refine (zic _).mono ?_
 rintro e w1 ⟨A,rfl,hb_,-⟩
 replace HB:=Lib.hid (HB.out.call hb_)
 clear hb_
 have hF:Fc (zew A 50 1000 20 40 5) = 1:=rfl
 have hL:Lc (zew A 50 1000 20 40 5) = 20:=rfl
 have H0:Hid (∀ W,Calls Tryz.prog 23 #[.agg (⟨0,0,0,0⟩ : Ho).cells.toArray,.int .i64 1,.int .i64 5] W fun en w' => en = .returned (.agg (⟨1,5,0,0⟩ : Ho).cells.toArray) ∧ Below W.heap.size W w'):=Lib.hid (fun W => zm1 ⟨0,0,0,0⟩ 1 5 W)
 have H1:Hid (∀ W,Calls Tryz.prog 24 #[.agg (⟨1,5,0,0⟩ : Ho).cells.toArray,.agg (cf (zew A 50 1000 20 40 5)).toArray,.agg (gm 0 1 5).cells.toArray] W fun en w' => en = .returned (.agg (⟨1,5,1,0⟩ : Ho).cells.toArray) ∧ Below W.heap.size W w'):=Lib.hid (fun W => by have:=zga ⟨1,5,0,0⟩ (zew A 50 1000 20 40 5) (gm 0 1 5) W ⟨by decide,by decide⟩; rwa [hF,hL,estep1] at this)
 have H2:Hid (∀ W,Calls Tryz.prog 24 #[.agg (⟨1,5,1,0⟩ : Ho).cells.toArray,.agg (cf (zew A 50 1000 20 40 5)).toArray,.agg (gm 2 1 5).cells.toArray] W fun en w' => en = .returned (.agg (⟨1,5,5,25⟩ : Ho).cells.toArray) ∧ Below W.heap.size W w'):=Lib.hid (fun W => by have:=zga ⟨1,5,1,0⟩ (zew A 50 1000 20 40 5) (gm 2 1 5) W ⟨by decide,by decide⟩; rwa [hF,hL,estep2] at this)
 have L1:Hid (∀ W,Calls Tryz.prog 25 #[.agg (⟨1,5,1,0⟩ : Ho).cells.toArray,.int .i64 1,.int .i64 6] W fun en w' => en = .returned (.bool false) ∧ Below W.heap.size W w'):=Lib.hid (fun W => zfi ⟨1,5,1,0⟩ 1 6 W)
 have L2:Hid (∀ W,Calls Tryz.prog 25 #[.agg (⟨1,5,5,25⟩ : Ho).cells.toArray,.int .i64 1,.int .i64 24] W fun en w' => en = .returned (.bool true) ∧ Below W.heap.size W w'):=Lib.hid (fun W => zfi ⟨1,5,5,25⟩ 1 24 W)
 have L3:Hid (∀ W,Calls Tryz.prog 25 #[.agg (⟨1,5,5,25⟩ : Ho).cells.toArray,.int .i64 1,.int .i64 25] W fun en w' => en = .returned (.bool false) ∧ Below W.heap.size W w'):=Lib.hid (fun W => zfi ⟨1,5,5,25⟩ 1 25 W)
 have L4:Hid (∀ W,Calls Tryz.prog 25 #[.agg (⟨1,5,5,25⟩ : Ho).cells.toArray,.int .i64 2,.int .i64 6] W fun en w' => en = .returned (.bool false) ∧ Below W.heap.size W w'):=Lib.hid (fun W => zfi ⟨1,5,5,25⟩ 2 6 W)
 clear hF hL
 go_wp2_with (first | (go_at_call 24; fail) | ((with_reducible refine zaz ?_); refine Km.wpList_build rfl 66 _ rfl #[] (by first | rfl | (go_simp; try rfl)) (⟨0,0,0,0⟩ : Ho).cells.toArray (ho_built) ?_; refine Kx.framed ?_ (by simp only [Act.put,List.setIfInBounds_toArray,List.set_cons_succ,List.set_cons_zero] <;> rfl)) | (go_at_call 23; refine Calls.mono (H0.out _) ?_; rintro e w_ ⟨rfl,hb_⟩; replace HB:=Lib.hid (HB.out.call hb_); clear hb_) | ((with_reducible refine zaz ?_); refine Km.wpList_build rfl 37 _ rfl #[(0,.int .i64 11),(1,.int .i64 0),(3,.int .i64 1),(6,.int .i64 5)] (by first | rfl | (go_simp; try rfl)) (gm 0 1 5).cells.toArray (znl 0 1 5) ?_; refine Kx.framed ?_ (by simp only [Act.put,List.setIfInBounds_toArray,List.set_cons_succ,List.set_cons_zero] <;> rfl)) | (first | ((with_reducible refine zah HB ?_); clear HB; intro w_ HB) | ((with_reducible refine zad (d:=some 1) ?_); (first | refine boxa HB rfl ?_ | refine boxt HB rfl rfl ?_ | refine box1 HB rfl rfl ?_); clear HB; intro b1 w_ HB; refine Kx.fr ?_) | ((with_reducible refine zaa (d:=some 1) ?_); (first | refine ala HB ?_ | refine al1 HB ?_); clear HB; intro b1 w_ HB; refine Kx.fr ?_) | ((with_reducible refine zad (d:=some 2) ?_); (first | refine boxa HB rfl ?_ | refine boxt HB rfl rfl ?_ | refine box1 HB rfl rfl ?_); clear HB; intro b2 w_ HB; refine Kx.fr ?_) | ((with_reducible refine zaa (d:=some 2) ?_); (first | refine ala HB ?_ | refine al1 HB ?_); clear HB; intro b2 w_ HB; refine Kx.fr ?_) | ((with_reducible refine zad (d:=some 3) ?_); (first | refine boxa HB rfl ?_ | refine boxt HB rfl rfl ?_ | refine box1 HB rfl rfl ?_); clear HB; intro b3 w_ HB; refine Kx.fr ?_) | ((with_reducible refine zaa (d:=some 3) ?_); (first | refine ala HB ?_ | refine al1 HB ?_); clear HB; intro b3 w_ HB; refine Kx.fr ?_) | ((with_reducible refine zad ?_); (first | refine boxa HB rfl ?_ | refine boxt HB rfl rfl ?_ | refine box1 HB rfl rfl ?_); clear HB; intro b_ w_ HB; refine Kx.fr ?_) | ((with_reducible refine zaa ?_); (first | refine ala HB ?_ | refine al1 HB ?_); clear HB; intro b_ w_ HB; refine Kx.fr ?_) | ((with_reducible refine zab ?_); first | refine Kx.l1 HB rfl rfl ?_ | refine Kx.la HB rfl ?_) | ((with_reducible refine zac ?_); first | refine l1g HB rfl rfl rfl ?_ | refine Kx.lag HB rfl rfl ?_) | ((with_reducible refine zae ?_); (first | refine stwa HB rfl rfl ?_ | refine sta HB rfl rfl ?_ | refine Kx.stc HB rfl rfl ?_ | refine Kx.stt HB rfl rfl rfl ?_ | refine Kx.st1 HB rfl rfl rfl ?_); clear HB; intro w_ HB)))
 refine Calls.mono (H1.out _) ?_
 rintro e w_ ⟨rfl,hb_⟩
 replace HB:=Lib.hid (HB.out.call hb_)
 clear hb_
 go_wp2_with (first | (go_at_call 24; fail) | ((with_reducible refine zaz ?_); refine Km.wpList_build rfl 37 _ rfl #[(0,.int .i64 11),(1,.int .i64 2),(3,.int .i64 1),(6,.int .i64 5)] (by first | rfl | (go_simp; try rfl)) (gm 2 1 5).cells.toArray (znl 2 1 5) ?_; refine Kx.framed ?_ (by simp only [Act.put,List.setIfInBounds_toArray,List.set_cons_succ,List.set_cons_zero] <;> rfl)) | (first | ((with_reducible refine zah HB ?_); clear HB; intro w_ HB) | ((with_reducible refine zad (d:=some 1) ?_); (first | refine boxa HB rfl ?_ | refine boxt HB rfl rfl ?_ | refine box1 HB rfl rfl ?_); clear HB; intro b1 w_ HB; refine Kx.fr ?_) | ((with_reducible refine zaa (d:=some 1) ?_); (first | refine ala HB ?_ | refine al1 HB ?_); clear HB; intro b1 w_ HB; refine Kx.fr ?_) | ((with_reducible refine zad (d:=some 2) ?_); (first | refine boxa HB rfl ?_ | refine boxt HB rfl rfl ?_ | refine box1 HB rfl rfl ?_); clear HB; intro b2 w_ HB; refine Kx.fr ?_) | ((with_reducible refine zaa (d:=some 2) ?_); (first | refine ala HB ?_ | refine al1 HB ?_); clear HB; intro b2 w_ HB; refine Kx.fr ?_) | ((with_reducible refine zad (d:=some 3) ?_); (first | refine boxa HB rfl ?_ | refine boxt HB rfl rfl ?_ | refine box1 HB rfl rfl ?_); clear HB; intro b3 w_ HB; refine Kx.fr ?_) | ((with_reducible refine zaa (d:=some 3) ?_); (first | refine ala HB ?_ | refine al1 HB ?_); clear HB; intro b3 w_ HB; refine Kx.fr ?_) | ((with_reducible refine zad ?_); (first | refine boxa HB rfl ?_ | refine boxt HB rfl rfl ?_ | refine box1 HB rfl rfl ?_); clear HB; intro b_ w_ HB; refine Kx.fr ?_) | ((with_reducible refine zaa ?_); (first | refine ala HB ?_ | refine al1 HB ?_); clear HB; intro b_ w_ HB; refine Kx.fr ?_) | ((with_reducible refine zab ?_); first | refine Kx.l1 HB rfl rfl ?_ | refine Kx.la HB rfl ?_) | ((with_reducible refine zac ?_); first | refine l1g HB rfl rfl rfl ?_ | refine Kx.lag HB rfl rfl ?_) | ((with_reducible refine zae ?_); (first | refine stwa HB rfl rfl ?_ | refine sta HB rfl rfl ?_ | refine Kx.stc HB rfl rfl ?_ | refine Kx.stt HB rfl rfl rfl ?_ | refine Kx.st1 HB rfl rfl rfl ?_); clear HB; intro w_ HB)))
 refine Calls.mono (H2.out _) ?_
 rintro e w_ ⟨rfl,hb_⟩
 replace HB:=Lib.hid (HB.out.call hb_)
 clear hb_
 go_wp2_with (first | (go_at_call 25; fail) | (first | ((with_reducible refine zah HB ?_); clear HB; intro w_ HB) | ((with_reducible refine zad (d:=some 1) ?_); (first | refine boxa HB rfl ?_ | refine boxt HB rfl rfl ?_ | refine box1 HB rfl rfl ?_); clear HB; intro b1 w_ HB; refine Kx.fr ?_) | ((with_reducible refine zaa (d:=some 1) ?_); (first | refine ala HB ?_ | refine al1 HB ?_); clear HB; intro b1 w_ HB; refine Kx.fr ?_) | ((with_reducible refine zad (d:=some 2) ?_); (first | refine boxa HB rfl ?_ | refine boxt HB rfl rfl ?_ | refine box1 HB rfl rfl ?_); clear HB; intro b2 w_ HB; refine Kx.fr ?_) | ((with_reducible refine zaa (d:=some 2) ?_); (first | refine ala HB ?_ | refine al1 HB ?_); clear HB; intro b2 w_ HB; refine Kx.fr ?_) | ((with_reducible refine zad (d:=some 3) ?_); (first | refine boxa HB rfl ?_ | refine boxt HB rfl rfl ?_ | refine box1 HB rfl rfl ?_); clear HB; intro b3 w_ HB; refine Kx.fr ?_) | ((with_reducible refine zaa (d:=some 3) ?_); (first | refine ala HB ?_ | refine al1 HB ?_); clear HB; intro b3 w_ HB; refine Kx.fr ?_) | ((with_reducible refine zad ?_); (first | refine boxa HB rfl ?_ | refine boxt HB rfl rfl ?_ | refine box1 HB rfl rfl ?_); clear HB; intro b_ w_ HB; refine Kx.fr ?_) | ((with_reducible refine zaa ?_); (first | refine ala HB ?_ | refine al1 HB ?_); clear HB; intro b_ w_ HB; refine Kx.fr ?_) | ((with_reducible refine zab ?_); first | refine Kx.l1 HB rfl rfl ?_ | refine Kx.la HB rfl ?_) | ((with_reducible refine zac ?_); first | refine l1g HB rfl rfl rfl ?_ | refine Kx.lag HB rfl rfl ?_) | ((with_reducible refine zae ?_); (first | refine stwa HB rfl rfl ?_ | refine sta HB rfl rfl ?_ | refine Kx.stc HB rfl rfl ?_ | refine Kx.stt HB rfl rfl rfl ?_ | refine Kx.st1 HB rfl rfl rfl ?_); clear HB; intro w_ HB)))
 refine Calls.mono (L1.out _) ?_
 rintro e w_ ⟨rfl,hb_⟩
 replace HB:=Lib.hid (HB.out.call hb_)
 clear hb_
 go_wp2_with (first | (go_at_call 25; fail) | (first | ((with_reducible refine zah HB ?_); clear HB; intro w_ HB) | ((with_reducible refine zad (d:=some 1) ?_); (first | refine boxa HB rfl ?_ | refine boxt HB rfl rfl ?_ | refine box1 HB rfl rfl ?_); clear HB; intro b1 w_ HB; refine Kx.fr ?_) | ((with_reducible refine zaa (d:=some 1) ?_); (first | refine ala HB ?_ | refine al1 HB ?_); clear HB; intro b1 w_ HB; refine Kx.fr ?_) | ((with_reducible refine zad (d:=some 2) ?_); (first | refine boxa HB rfl ?_ | refine boxt HB rfl rfl ?_ | refine box1 HB rfl rfl ?_); clear HB; intro b2 w_ HB; refine Kx.fr ?_) | ((with_reducible refine zaa (d:=some 2) ?_); (first | refine ala HB ?_ | refine al1 HB ?_); clear HB; intro b2 w_ HB; refine Kx.fr ?_) | ((with_reducible refine zad (d:=some 3) ?_); (first | refine boxa HB rfl ?_ | refine boxt HB rfl rfl ?_ | refine box1 HB rfl rfl ?_); clear HB; intro b3 w_ HB; refine Kx.fr ?_) | ((with_reducible refine zaa (d:=some 3) ?_); (first | refine ala HB ?_ | refine al1 HB ?_); clear HB; intro b3 w_ HB; refine Kx.fr ?_) | ((with_reducible refine zad ?_); (first | refine boxa HB rfl ?_ | refine boxt HB rfl rfl ?_ | refine box1 HB rfl rfl ?_); clear HB; intro b_ w_ HB; refine Kx.fr ?_) | ((with_reducible refine zaa ?_); (first | refine ala HB ?_ | refine al1 HB ?_); clear HB; intro b_ w_ HB; refine Kx.fr ?_) | ((with_reducible refine zab ?_); first | refine Kx.l1 HB rfl rfl ?_ | refine Kx.la HB rfl ?_) | ((with_reducible refine zac ?_); first | refine l1g HB rfl rfl rfl ?_ | refine Kx.lag HB rfl rfl ?_) | ((with_reducible refine zae ?_); (first | refine stwa HB rfl rfl ?_ | refine sta HB rfl rfl ?_ | refine Kx.stc HB rfl rfl ?_ | refine Kx.stt HB rfl rfl rfl ?_ | refine Kx.st1 HB rfl rfl rfl ?_); clear HB; intro w_ HB)))
 refine Calls.mono (L2.out _) ?_
 rintro e w_ ⟨rfl,hb_⟩
 replace HB:=Lib.hid (HB.out.call hb_)
 clear hb_
 go_wp2_with (first | (go_at_call 25; fail) | (first | ((with_reducible refine zah HB ?_); clear HB; intro w_ HB) | ((with_reducible refine zad (d:=some 1) ?_); (first | refine boxa HB rfl ?_ | refine boxt HB rfl rfl ?_ | refine box1 HB rfl rfl ?_); clear HB; intro b1 w_ HB; refine Kx.fr ?_) | ((with_reducible refine zaa (d:=some 1) ?_); (first | refine ala HB ?_ | refine al1 HB ?_); clear HB; intro b1 w_ HB; refine Kx.fr ?_) | ((with_reducible refine zad (d:=some 2) ?_); (first | refine boxa HB rfl ?_ | refine boxt HB rfl rfl ?_ | refine box1 HB rfl rfl ?_); clear HB; intro b2 w_ HB; refine Kx.fr ?_) | ((with_reducible refine zaa (d:=some 2) ?_); (first | refine ala HB ?_ | refine al1 HB ?_); clear HB; intro b2 w_ HB; refine Kx.fr ?_) | ((with_reducible refine zad (d:=some 3) ?_); (first | refine boxa HB rfl ?_ | refine boxt HB rfl rfl ?_ | refine box1 HB rfl rfl ?_); clear HB; intro b3 w_ HB; refine Kx.fr ?_) | ((with_reducible refine zaa (d:=some 3) ?_); (first | refine ala HB ?_ | refine al1 HB ?_); clear HB; intro b3 w_ HB; refine Kx.fr ?_) | ((with_reducible refine zad ?_); (first | refine boxa HB rfl ?_ | refine boxt HB rfl rfl ?_ | refine box1 HB rfl rfl ?_); clear HB; intro b_ w_ HB; refine Kx.fr ?_) | ((with_reducible refine zaa ?_); (first | refine ala HB ?_ | refine al1 HB ?_); clear HB; intro b_ w_ HB; refine Kx.fr ?_) | ((with_reducible refine zab ?_); first | refine Kx.l1 HB rfl rfl ?_ | refine Kx.la HB rfl ?_) | ((with_reducible refine zac ?_); first | refine l1g HB rfl rfl rfl ?_ | refine Kx.lag HB rfl rfl ?_) | ((with_reducible refine zae ?_); (first | refine stwa HB rfl rfl ?_ | refine sta HB rfl rfl ?_ | refine Kx.stc HB rfl rfl ?_ | refine Kx.stt HB rfl rfl rfl ?_ | refine Kx.st1 HB rfl rfl rfl ?_); clear HB; intro w_ HB)))
 refine Calls.mono (L3.out _) ?_
 rintro e w_ ⟨rfl,hb_⟩
 replace HB:=Lib.hid (HB.out.call hb_)
 clear hb_
 go_wp2_with (first | (go_at_call 25; fail) | (first | ((with_reducible refine zah HB ?_); clear HB; intro w_ HB) | ((with_reducible refine zad (d:=some 1) ?_); (first | refine boxa HB rfl ?_ | refine boxt HB rfl rfl ?_ | refine box1 HB rfl rfl ?_); clear HB; intro b1 w_ HB; refine Kx.fr ?_) | ((with_reducible refine zaa (d:=some 1) ?_); (first | refine ala HB ?_ | refine al1 HB ?_); clear HB; intro b1 w_ HB; refine Kx.fr ?_) | ((with_reducible refine zad (d:=some 2) ?_); (first | refine boxa HB rfl ?_ | refine boxt HB rfl rfl ?_ | refine box1 HB rfl rfl ?_); clear HB; intro b2 w_ HB; refine Kx.fr ?_) | ((with_reducible refine zaa (d:=some 2) ?_); (first | refine ala HB ?_ | refine al1 HB ?_); clear HB; intro b2 w_ HB; refine Kx.fr ?_) | ((with_reducible refine zad (d:=some 3) ?_); (first | refine boxa HB rfl ?_ | refine boxt HB rfl rfl ?_ | refine box1 HB rfl rfl ?_); clear HB; intro b3 w_ HB; refine Kx.fr ?_) | ((with_reducible refine zaa (d:=some 3) ?_); (first | refine ala HB ?_ | refine al1 HB ?_); clear HB; intro b3 w_ HB; refine Kx.fr ?_) | ((with_reducible refine zad ?_); (first | refine boxa HB rfl ?_ | refine boxt HB rfl rfl ?_ | refine box1 HB rfl rfl ?_); clear HB; intro b_ w_ HB; refine Kx.fr ?_) | ((with_reducible refine zaa ?_); (first | refine ala HB ?_ | refine al1 HB ?_); clear HB; intro b_ w_ HB; refine Kx.fr ?_) | ((with_reducible refine zab ?_); first | refine Kx.l1 HB rfl rfl ?_ | refine Kx.la HB rfl ?_) | ((with_reducible refine zac ?_); first | refine l1g HB rfl rfl rfl ?_ | refine Kx.lag HB rfl rfl ?_) | ((with_reducible refine zae ?_); (first | refine stwa HB rfl rfl ?_ | refine sta HB rfl rfl ?_ | refine Kx.stc HB rfl rfl ?_ | refine Kx.stt HB rfl rfl rfl ?_ | refine Kx.st1 HB rfl rfl rfl ?_); clear HB; intro w_ HB)))
 refine Calls.mono (L4.out _) ?_
 rintro e w_ ⟨rfl,hb_⟩
 replace HB:=Lib.hid (HB.out.call hb_)
 clear hb_
 go_wp2_with fail
 go_ret
 exact ⟨rfl,HB.out.below⟩
end Go.Proofs.YtponpgcpmlcdpaaGreatDoor

namespace Go.Proofs.YtponpgcpmlcdpaaGreatDoor
open Go.RowKit Go.Shelf Km Kx Kc Kt
set_option linter.unusedVariables false
set_option linter.unusedSimpArgs false
def Gap (at_ who l0 l1:Int):Prop :=
 (at_ = -1 ∧ l0 = -1 ∧ l1 = -1) ∨ (0 ≤ at_ ∧ who = 10 ∧ l0 = at_ ∧ (l1 = -1 ∨ (0 ≤ l1 ∧ l1 + 25 ≤ l0))) ∨ (0 ≤ at_ ∧ who = 11 ∧ l1 = at_ ∧ (l0 = -1 ∨ (0 ≤ l0 ∧ l0 + 25 ≤ l1)))
theorem Gap.grant0 {at_ who l0 l1 now:Int} (h:Gap at_ who l0 l1) (hl:at_ ≤ now) (h0:0 ≤ now) (hc:at_ < 0 ∨ who = 10 ∨ 25 ≤ now - at_):Gap now 10 now l1:=by
 unfold Gap at *; omega
theorem Gap.grant1 {at_ who l0 l1 now:Int} (h:Gap at_ who l0 l1) (hl:at_ ≤ now) (h0:0 ≤ now) (hc:at_ < 0 ∨ who = 11 ∨ 25 ≤ now - at_):Gap now 11 l0 now:=by
 unfold Gap at *; omega
def Nl (now:Int) (rs:List Mm.Ms) (a:Ac) (s:Jm.St) (l0 l1:Int):Prop:=∃ at_ who,LInv at_ who now (KK (zp 2) rs) a s ∧ Gap at_ who l0 l1
section
variable {rs rs':List Mm.Ms} {a a':Ac} {s s':Jm.St} {F F':Fz} {m:Mm.Ms} {now now' l0 l1:Int} {R:Res} {node:Int}
theorem Nl.later (h:Nl now rs a s l0 l1) (hn:now ≤ now'):Nl now' rs a s l0 l1:=by
 obtain ⟨at_,who,h1,h2⟩:=h
 exact ⟨at_,who,h1.later hn,h2⟩
theorem Nl.le (h:Nl now rs a s l0 l1):l0 ≤ now ∧ l1 ≤ now ∧ ((0 ≤ l0 ∧ 0 ≤ l1) → l0 + 25 ≤ l1 ∨ l1 + 25 ≤ l0) ∨ now < 0:=by
 obtain ⟨at_,who,h1,h2⟩:=h
 have:=h1.hi
 have:=h1.lo
 unfold Gap at h2
 omega
theorem Nl.new {p:Pt} {c:Cf} (n:Int):Nl 0 [] (newA c n p) Jm.new (-1) (-1) :=
 ⟨-1,-1,⟨Int.le_refl _,by decide,fun q => absurd q (by decide),fun _ => ⟨fun q => absurd rfl q,fun q => absurd q (by decide)⟩⟩,.inl ⟨rfl,rfl,rfl⟩⟩
theorem Nl.down {rs':List Mm.Ms} (h:Nl now rs a s l0 l1) (hc:(KK (zp 2) rs).led = true → (KK (zp 2) rs').led = true) (hs:s'.off = true):Nl now rs' a' s' l0 l1:=by
 obtain ⟨at_,who,h1,h2⟩:=h
 exact ⟨at_,who,h1.down hc hs,h2⟩
theorem Nl.rst {er:Int} (h:Nl now rs a s l0 l1) (k:Rst (zp 2) F F' node s rs now er a a'):Nl now rs a' (Jm.opn s).1 l0 l1:=by
 obtain ⟨at_,who,h1,h2⟩:=h
 exact ⟨at_,who,h1.rst k,h2⟩
theorem zlx {x:Mm.Ms} {p:Pt}:(a.replay x p).node = a.node:=by
 unfold Ac.replay Ac.enter Ac.widen
 repeat' split
 all_goals rfl
theorem zop (k:Stp (zp 2) F a s rs m now R rs') (he:m.e = 0) {y:Mm.Ms} {lo:Lo} (hy:R.2.2 = some (y,lo)) (h11:y.k = 11):y.f = a.node ∧ y.e = 0 ∧ y.n = m.n ∧ y.co = 2 ∧ y.t = m.f:=by
 cases k with
 | quiet i t j => cases hy
 | told y' lo' hk j => cases hy; rcases hk with q | q <;> rw [q] at h11 <;> exact absurd h11 (by decide)
 | wr hf hm hg j => omega
 | ld hf hl j => cases hy; exact ⟨rfl,he,rfl,rfl,rfl⟩
 | lost s' j hz => cases hy
 | pro p s' lo' hf hp hb hn j0 nx j hz => cases hy; exact absurd h11 (by show ¬ (5:Int) = 11; decide)
 | acc p s' hf hp hn j0 nx j hz => cases hy; exact absurd h11 (by show ¬ (8:Int) = 11; decide)
 | lw s' hf hm j0 nx j hz => omega
 | ll s' hf hn j0 nx j hz => cases hy; exact ⟨zlx,he,rfl,rfl,rfl⟩
theorem Nl.step (hc:a.c.l = 20 ∧ a.c.m = 5) (hm:m.e = 0 ∧ (m.f = 10 ∨ m.f = 11)) (h0:0 ≤ now) (h:Nl now rs a s l0 l1) (k:Stp (zp 2) F a s rs m now R rs') :
  (R.2.2 = none → Nl now rs' R.1 R.2.1 l0 l1) ∧ ∀ y lo,R.2.2 = some (y,lo) → (y.k ≠ 11 ∧ Nl now rs' R.1 R.2.1 l0 l1) ∨ (y.k = 11 ∧ y.f = a.node ∧ y.e = 0 ∧ y.n = m.n ∧ (m.f = 10 → Nl now rs' R.1 R.2.1 now l1) ∧ (m.f = 11 → Nl now rs' R.1 R.2.1 l0 now)):=by
 obtain ⟨at_,who,h1,h2⟩:=h
 have hs:=zom (fun _ => by rcases hm.2 with q | q <;> rw [q] <;> decide) h1 k
 refine ⟨fun q => ⟨at_,who,hs.1 q,h2⟩,fun y lo hy => ?_⟩
 by_cases h11:y.k = 11
 ·obtain ⟨f1,f2,f3,f4,f5⟩:=zop k hm.1 hy h11
  rcases hs.2 y lo hy with ⟨q,-⟩ | ⟨-,-,q,-,hl⟩
  ·exact absurd ⟨h11,f4⟩ q
  ·have hw:a.c.l + a.c.m = 25:=by rw [hc.1,hc.2]; rfl
   rw [hw] at q
   refine .inr ⟨h11,f1,f2,f3,fun e => ⟨now,y.t,hl,?_⟩,fun e => ⟨now,y.t,hl,?_⟩⟩
   ·rw [f5,e]
    exact h2.grant0 h1.hi h0 (by rw [f5,e] at q; exact q)
   ·rw [f5,e]
    exact h2.grant1 h1.hi h0 (by rw [f5,e] at q; exact q)
 ·rcases hs.2 y lo hy with ⟨-,hl⟩ | ⟨q,-⟩
  ·exact .inl ⟨h11,at_,who,hl,h2⟩
  ·exact absurd q h11
end
structure HI (L:Nat → Int) (now n:Int) (G:Nat) (u:Int):Prop where
 hn:0 ≤ n ∧ n ≤ now
 hg:G < 18446744073709551616 ∧ ∀ i,i < 3 → G.testBit i = true → n ≤ L i
 hu:u = 0 ∨ ∃ i j,i < 3 ∧ j < 3 ∧ i ≠ j ∧ u ≤ L i + 20 ∧ u ≤ L j + 20 ∧ 0 ≤ L i ∧ 0 ≤ L j
def upd (L:Nat → Int) (i:Nat) (v:Int):Nat → Int:=fun j => if j = i then v else L j
theorem zpc (L:Nat → Int) (i:Nat) (v:Int):upd L i v i = v:=if_pos rfl
theorem upd_ne {L:Nat → Int} {i j:Nat} {v:Int} (h:j ≠ i):upd L i v j = L j:=if_neg h
theorem upd_le {L:Nat → Int} {i:Nat} {v:Int} (h:L i ≤ v) (j:Nat):L j ≤ upd L i v j:=by
 unfold upd; split
 ·rename_i e; rw [e]; exact h
 ·exact Int.le_refl _
section
variable {L L':Nat → Int} {now now' n u:Int} {G:Nat}
theorem HI.later (h:HI L now n G u) (hn:now ≤ now'):HI L now' n G u:=⟨⟨h.hn.1,Int.le_trans h.hn.2 hn⟩,h.hg,h.hu⟩
theorem HI.more (h:HI L now n G u) (hL:∀ i,L i ≤ L' i):HI L' now n G u:=⟨h.hn,⟨h.hg.1,fun i hi hb => Int.le_trans (h.hg.2 i hi hb) (hL i)⟩,h.hu.imp id (fun ⟨i,j,h1,h2,h3,h4,h5,h6,h7⟩ => ⟨i,j,h1,h2,h3,by have:=hL i; omega,by have:=hL j; omega,by have:=hL i; omega,by have:=hL j; omega⟩)⟩
theorem HI.ask (h:HI L now n G u) (h0:0 ≤ now):HI L now now 0 u:=⟨⟨h0,Int.le_refl _⟩,⟨by decide,fun i _ hb => by rw [Nat.zero_testBit] at hb; cases hb⟩,h.hu⟩
theorem cnt_two {G:Nat} (h:Om.most 1 G = true):∃ i j,i < 3 ∧ j < 3 ∧ i ≠ j ∧ G.testBit i = true ∧ G.testBit j = true:=by
 unfold Om.most at h
 have h2:=of_decide_eq_true h
 have e:Om.cnt G 3 = (if G.testBit 0 = true then 1 else 0) + (if G.testBit 1 = true then 1 else 0) + (if G.testBit 2 = true then 1 else 0):=by
  show (((0 + _) + _) + _:Nat) = _
  rw [Nat.zero_add]
 have h3:2 ≤ Om.cnt G 3:=h2
 rw [e] at h3
 by_cases b0:G.testBit 0 = true
 ·by_cases b1:G.testBit 1 = true
  ·exact ⟨0,1,by decide,by decide,by decide,b0,b1⟩
  ·by_cases b2:G.testBit 2 = true
   ·exact ⟨0,2,by decide,by decide,by decide,b0,b2⟩
   ·rw [if_pos b0,if_neg b1,if_neg b2] at h3; omega
 ·by_cases b1:G.testBit 1 = true
  ·by_cases b2:G.testBit 2 = true
   ·exact ⟨1,2,by decide,by decide,by decide,b1,b2⟩
   ·rw [if_neg b0,if_pos b1,if_neg b2] at h3; omega
  ·rw [if_neg b0,if_neg b1] at h3
   split at h3 <;> omega
theorem HI.grant (h:HI L now n G u) {i:Nat} (hi:i < 3) (hL:L i ≤ now) :
  HI (upd L i now) now n (G ||| 2 ^ i) u ∧ (Om.most 1 (G ||| 2 ^ i) = true → HI (upd L i now) now n (G ||| 2 ^ i) (if u < n + 20 then n + 20 else u)):=by
 have hm:=h.more (L':=upd L i now) (upd_le hL)
 have hg:(G ||| 2 ^ i) < 18446744073709551616 ∧ ∀ j,j < 3 → (G ||| 2 ^ i).testBit j = true → n ≤ upd L i now j:=by
  refine ⟨znt h.hg.1 (by omega),fun j hj hb => ?_⟩
  by_cases e:j = i
  ·rw [e,zpc]; exact h.hn.2
  ·rw [Nat.testBit_or,Nat.testBit_two_pow] at hb
   have e2:decide (i = j) = false:=decide_eq_false (fun q => e q.symm)
   rw [e2,Bool.or_false] at hb
   exact hm.hg.2 j hj hb
 refine ⟨⟨h.hn,hg,hm.hu⟩,fun hmo => ⟨h.hn,hg,?_⟩⟩
 split
 ·obtain ⟨p,q,h1,h2,h3,h4,h5⟩:=cnt_two hmo
  have g1:=hg.2 p h1 h4
  have g2:=hg.2 q h2 h5
  have:=h.hn.1
  exact .inr ⟨p,q,h1,h2,h3,by omega,by omega,by omega,by omega⟩
 ·exact hm.hu
end
theorem hold_one {L0 L1:Nat → Int} {now n0 n1 u0 u1:Int} {G0 G1:Nat} (h0:HI L0 now n0 G0 u0) (h1:HI L1 now n1 G1 u1) (hn:0 ≤ now)
  (hg:∀ i,i < 3 → L0 i ≤ now ∧ L1 i ≤ now ∧ ((0 ≤ L0 i ∧ 0 ≤ L1 i) → L0 i + 25 ≤ L1 i ∨ L1 i + 25 ≤ L0 i)):decide (now < u0) = false ∨ decide (now < u1) = false:=by
 by_cases a0:now < u0
 ·refine .inr (decide_eq_false fun a1 => ?_)
  rcases h0.hu with e | ⟨i,j,i3,j3,hij,x1,x2,x3,x4⟩
  ·omega
  rcases h1.hu with e | ⟨p,q,p3,q3,hpq,y1,y2,y3,y4⟩
  ·omega
  have common:i = p ∨ i = q ∨ j = p ∨ j = q:=by omega
  rcases common with e | e | e | e
  ·subst e; have:=hg i i3; omega
  ·subst e; have:=hg i i3; omega
  ·subst e; have:=hg j j3; omega
  ·subst e; have:=hg j j3; omega
 ·exact .inl (decide_eq_false a0)
def Al (F:Fz) (n:Nat) (now:Int) (L0 L1:Nat → Int) (T:List A1):Prop:=∀ i t,T[i]? = some t → ∃ rs,Nb [1,0] 2 F i n rs t.a t.s ∧ Nl now rs t.a t.s (L0 i) (L1 i)
theorem Al.put {F F':Fz} {n n':Nat} {now:Int} {L0 L1 L0' L1':Nat → Int} {T:List A1} {i:Nat} {t':A1} (h:Al F n now L0 L1 T) (hF:∀ q ∈ F,q ∈ F') (hn:n ≤ n') (h0:∀ j,j ≠ i → L0' j = L0 j) (h1:∀ j,j ≠ i → L1' j = L1 j)
  (hi:∃ rs,Nb [1,0] 2 F' i n' rs t'.a t'.s ∧ Nl now rs t'.a t'.s (L0' i) (L1' i)):Al F' n' now L0' L1' (T.set i t'):=fun j u hj => by
 rw [List.getElem?_set] at hj
 by_cases e:i = j
 ·rw [if_pos e] at hj
  split at hj
  ·cases hj; rw [←e]; exact hi
  ·cases hj
 ·rw [if_neg e] at hj
  obtain ⟨rs,k1,k2⟩:=h j u hj
  exact ⟨rs,k1.wide hF hn,by rw [h0 j (fun q => e q.symm),h1 j (fun q => e q.symm)]; exact k2⟩
theorem Al.later {F:Fz} {n:Nat} {now now':Int} {L0 L1:Nat → Int} {T:List A1} (h:Al F n now L0 L1 T) (hn:now ≤ now'):Al F n now' L0 L1 T:=fun i t hi => by
 obtain ⟨rs,k1,k2⟩:=h i t hi
 exact ⟨rs,k1,k2.later hn⟩
def qm (f t n:Int):Mm.Ms:=⟨10,f,t,0,0,0,n,0,0,2,false,Pm.zero,[],[],[]⟩
theorem znb (f t n:Int):Tryz.prog.built 37 [(0,.int .i64 10),(1,.int .i64 f),(2,.int .i64 t),(9,.int .i64 2),(6,.int .i64 n)] = some (mvs (qm f t n) Lo.zero).toArray:=by kernel_rfl
theorem qm_ok {f t n:Int} (hf:Pm.I f) (ht:Pm.I t) (hn:Pm.I n):MsOk (qm f t n) Lo.zero :=
 ⟨⟨(show Pm.I 10 from ⟨by decide,by decide⟩),hf,ht,I0,I0,I0,hn,I0,U0,(show Pm.I 2 from ⟨by decide,by decide⟩),Pm.zep,(fun _ q => by cases q),Fm.By.nil,Fm.By.nil⟩,rfl,Nat.le_refl _,Nat.zero_le _,rfl,Nat.le_refl _,Nat.zero_le _,rfl,Nat.le_refl _,Nat.zero_le _,rfl,Nat.le_refl _,Nat.zero_le _,rfl,Nat.le_refl _,Nat.zero_le _⟩
theorem qm_in (f t n:Int) (F:Fz):Within (mfz (qm f t n) Lo.zero) F:=fun q hq => .inl (by
 simp only [mfz,List.mem_cons,List.not_mem_nil,or_false] at hq
 rcases hq with rfl | rfl | rfl | rfl | rfl <;> rfl)
def toMg (y:Mm.Ms) (l:Lo):Mg:=⟨y.k,y.f,y.t,y.e,y.b,y.a,y.n,y.ti,y.up,y.co,y.has,⟨y.plan.e,y.plan.t,y.plan.p,y.plan.s,y.plan.c,y.plan.st,y.plan.si,y.plan.ra,y.plan.up,y.plan.su,⟨l.A1,l.n1,l.c1,[]⟩,⟨l.A2,l.n2,l.c2,[]⟩⟩,⟨l.A3,l.n3,l.c3,[]⟩,⟨l.A4,l.n4,l.c4,[]⟩,⟨l.A5,l.n5,l.c5,[]⟩⟩
theorem zky {y:Mm.Ms} {lo:Lo} {h:Ho} (hk:y.k ≠ 11):ze7 1 20 h (toMg y lo) = h:=if_neg (fun q => hk q.1)
theorem zkx {y:Mm.Ms} {lo:Lo} {n u:Int} {G i:Nat} (hk:y.k = 11) (he:y.e = 0) (hn:y.n = n) (hf:y.f = (i:Int)) (hi:i < 3) (h0:0 ≤ n ∧ n ≤ 1099511627776) :
  ze7 1 20 (⟨0,n,(G:Int),u⟩ : Ho) (toMg y lo) = ⟨0,n,((G ||| 2 ^ i:Nat):Int),if Om.most 1 (G ||| 2 ^ i) = true then (if u < n + 20 then n + 20 else u) else u⟩:=by
 have hG:zdl 1 (⟨0,n,(G:Int),u⟩ : Ho) (toMg y lo):=⟨hk,he,hn,by show 0 ≤ y.f; omega,by show y.f ≤ _; omega,by show 0 ≤ y.n; omega,by show y.n ≤ _; omega⟩
 have e2:zo0 (G:Int) (toMg y lo).f = ((G ||| 2 ^ i:Nat):Int):=by show zo0 (G:Int) y.f = _; rw [hf]; rfl
 unfold ze7
 rw [if_pos hG]
 dsimp only
 rw [e2,Int.toNat_natCast]
 split <;> rfl
theorem Al.le {F:Fz} {n n':Nat} {now:Int} {L0 L1:Nat → Int} {T:List A1} (h:Al F n now L0 L1 T) (hn:n ≤ n'):Al F n' now L0 L1 T:=fun i t hi => by
 obtain ⟨rs,k1,k2⟩:=h i t hi
 exact ⟨rs,k1.wide (fun q hq => hq) hn,k2⟩
theorem znu (n g u n2:Int):askH ⟨0,n,g,u⟩ 0 n2 = ⟨0,n2,0,u⟩:=by unfold askH; rw [if_pos rfl]
theorem zq6 {F:Fz} {i n:Nat} {rs:List Mm.Ms} {a:Ac} {s:Jm.St} {now l0 l1:Int} (h:Nb [1,0] 2 F i n rs a s) (hl:Nl now rs a s l0 l1) (k:Int):∃ rs2,Nb [1,0] 2 F i n rs2 a (Jm.crash s k) ∧ Nl now rs2 a (Jm.crash s k) l0 l1:=by
 rcases h.ji.crash k with hd | ⟨x,hx,hxn,hd⟩
 ·exact ⟨rs,h.crash k hd,hl.down id rfl⟩
 ·exact ⟨rs ++ [x],h.crash k hd,hl.down (fun q => by rw [zeu]; exact zhx q) rfl⟩
theorem zkt (n g u now:Int):zol ⟨0,n,g,u⟩ 0 now = decide (now < u):=by
 show (((0:Int) == 0) && decide (now < u)) = _
 rw [beq_self_eq_true,Bool.true_and]
end Go.Proofs.YtponpgcpmlcdpaaGreatDoor
