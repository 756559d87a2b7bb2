import Derived.WalkKit
import Derived.Test.YtponpgcpmlcdpaaGreatDoorBK
import Derived.Lib.LaidTab
set_option maxRecDepth 100000
namespace Go.Proofs.YtponpgcpmlcdpaaGreatDoor.Cm
open Go.RowKit
def s1 (r:BitVec 32):BitVec 32:=(r >>> 1) ^^^ (bif r.getLsbD 0 then 3988292384#32 else 0#32)
def s4 (r:BitVec 32):BitVec 32:=s1 (s1 (s1 (s1 r)))
def s8 (r:BitVec 32):BitVec 32:=s4 (s4 r)
theorem s1_xor (x y:BitVec 32):s1 (x ^^^ y)=s1 x ^^^ s1 y:=by
 unfold s1
 rw [BitVec.ushiftRight_xor_distrib,BitVec.getLsbD_xor]
 cases x.getLsbD 0<;>cases y.getLsbD 0<;>simp
 ·ac_rfl
 ·ac_rfl
 ·rw [show (x >>> 1 ^^^ 3988292384#32 ^^^ (y >>> 1 ^^^ 3988292384#32))=(x >>> 1 ^^^ y >>> 1) ^^^ (3988292384#32 ^^^ 3988292384#32) from by ac_rfl]
  simp
theorem s4_xor (x y:BitVec 32):s4 (x ^^^ y)=s4 x ^^^ s4 y:=by simp only [s4,s1_xor]
theorem zj6 {x:BitVec 32} (h:x.getLsbD 0=false):s1 x=x >>> 1:=by unfold s1;rw [h];simp
theorem s4_even (x:BitVec 32) (h:∀i,i < 4→x.getLsbD i=false):s4 x=x >>> 4:=by
 unfold s4
 rw [zj6 (h 0 (by omega)),zj6 (x:=x >>> 1) (by simpa using h 1 (by omega)),zj6 (x:=x >>> 1 >>> 1) (by simpa using h 2 (by omega)),
  zj6 (x:=x >>> 1 >>> 1 >>> 1) (by simpa using h 3 (by omega))]
 simp [←BitVec.shiftRight_add]
def tab:List Int:=[0,498536548,997073096,651767980,1994146192,1802195444,1303535960,1342533948,3988292384,4027552580,3604390888,3412177804,2607071920,2262029012,2685067896,3183342108]
theorem tab_all:∀k:Fin 16,s4 (BitVec.ofNat 32 k.val)=BitVec.ofInt 32 (tab.getD k.val 0):=by decide
theorem tab_fit:∀k:Fin 16,0≤tab.getD k.val 0∧tab.getD k.val 0 < 4294967296:=by decide
theorem split4 (x:BitVec 32):x=((x >>> 4) <<< 4) ^^^ (x &&& 15#32):=by
 apply BitVec.eq_of_getLsbD_eq
 intro i hi
 have h15:(15#32).getLsbD i=decide (i < 4):=by
  have:∀j:Fin 32,(15#32).getLsbD j.val=decide (j.val < 4):=by decide
  exact this ⟨i,hi⟩
 simp only [BitVec.getLsbD_xor,BitVec.getLsbD_shiftLeft,BitVec.getLsbD_ushiftRight,BitVec.getLsbD_and,h15,hi]
 by_cases h4:i < 4
 ·simp [h4]
 ·simp [h4,show 4+(i - 4)=i by omega]
theorem s4_tab (x:BitVec 32):s4 x=(x >>> 4) ^^^ BitVec.ofInt 32 (tab.getD (x.toNat % 16) 0):=by
 have h1:=tab_all ⟨x.toNat % 16,Nat.mod_lt _ (by omega)⟩
 have h2:BitVec.ofNat 32 (x.toNat % 16)=x &&& 15#32:=by
  apply BitVec.eq_of_toNat_eq
  rw [BitVec.toNat_and,BitVec.toNat_ofNat]
  have:x.toNat &&& (15#32).toNat=x.toNat % 16:=Nat.and_two_pow_sub_one_eq_mod x.toNat 4
  rw [this]
  omega
 dsimp only at h1
 rw [h2] at h1
 rw [←h1]
 conv=>lhs;rw [split4 x]
 rw [s4_xor,s4_even ((x >>> 4) <<< 4) (fun i hi=>by simp [hi])]
 congr 1
 apply BitVec.eq_of_getLsbD_eq
 intro i hi
 simp only [BitVec.getLsbD_shiftLeft,BitVec.getLsbD_ushiftRight]
 by_cases h:4+i < 32
 ·simp [h,show ¬ 4+i < 4 by omega,show 4+i - 4=i by omega]
 ·simp [h]
  apply BitVec.getLsbD_of_ge
  omega
def stp (r:BitVec 32) (c:Int):BitVec 32:=s8 (r ^^^ BitVec.ofInt 32 c)
def run (r:BitVec 32) (xs:List Int):BitVec 32:=xs.foldl stp r
def crc (s:BitVec 32) (xs:List Int):BitVec 32 := ~~~(run (~~~s) xs)
theorem run_nil (r:BitVec 32):run r []=r:=rfl
theorem zh5 (r:BitVec 32) (xs ys:List Int):run r (xs++ys)=run (run r xs) ys:=List.foldl_append
theorem run_take {xs:List Int} {k:Nat} {c:Int} (h:xs[k]? = some c) (r:BitVec 32):run r (xs.take (k+1))=stp (run r (xs.take k)) c:=by
 rw [List.take_add_one,h,zh5]
 rfl
theorem u32v (x:BitVec 32):(x.toNat:Int) < 4294967296:=by have:=x.isLt;omega
theorem zmv (x:BitVec 32):BitVec.ofInt 32 (x.toNat:Int)=x:=by
 apply BitVec.eq_of_toNat_eq
 rw [ofInt_u32 x.toNat x.isLt]
theorem w_xor (x:BitVec 32) {c:Int} (h0:0≤c) (h1:c < 4294967296):bits .xor .u32 (x.toNat:Int) c=((x ^^^ BitVec.ofInt 32 c).toNat:Int):=by
 obtain ⟨n,rfl⟩:=Int.eq_ofNat_of_zero_le h0
 rw [u32_xor_nat x.toNat n x.isLt (by omega),BitVec.toNat_xor,ofInt_u32 n (by omega)]
theorem w_xor2 (x y:BitVec 32):bits .xor .u32 (x.toNat:Int) (y.toNat:Int)=((x ^^^ y).toNat:Int):=by
 rw [w_xor x (by omega) (u32v y),zmv]
theorem w_not (x:BitVec 32):bits .xor .u32 IntKind.u32.max (x.toNat:Int)=((~~~x).toNat:Int):=by
 have e:IntKind.u32.max=(((-1:BitVec 32).toNat:Nat):Int):=by rfl
 rw [e,w_xor2]
 congr 2
theorem w_and15 (x:BitVec 32):bits .and .u32 (x.toNat:Int) 15=((x.toNat % 16:Nat):Int):=by
 rw [show (15:Int)=((15:Nat):Int) from rfl,u32_and_nat x.toNat 15 x.isLt (by omega)]
 congr 1
 exact Nat.and_two_pow_sub_one_eq_mod x.toNat 4
theorem w_shr (x:BitVec 32) (k:Nat):((x.toNat:Int) / ((2 ^ k:Nat):Int))=((x >>> k).toNat:Int):=by
 rw [BitVec.toNat_ushiftRight,Nat.shiftRight_eq_div_pow]
 exact (Int.natCast_ediv _ _).symm
def V (x:BitVec 32):Int:=(x.toNat:Int)
theorem V_fit (x:BitVec 32):0≤V x∧V x≤4294967295:=by have:=x.isLt;unfold V;omega
theorem V_zero:(0:Int)=V 0#32:=rfl
theorem v_xor (x:BitVec 32) {c:Int} (h0:0≤c) (h1:c≤4294967295):bits .xor .u32 (V x) c=V (x ^^^ BitVec.ofInt 32 c):=w_xor x h0 (by omega)
theorem v_not (x:BitVec 32):bits .xor .u32 IntKind.u32.max (V x)=V (~~~x):=w_not x
theorem v_and15 (x:BitVec 32):bits .and .u32 (V x) 15=((x.toNat % 16:Nat):Int):=w_and15 x
theorem v_shr4 (x:BitVec 32):V x / (16:Int)=V (x >>> 4):=w_shr x 4
end Go.Proofs.YtponpgcpmlcdpaaGreatDoor.Cm
namespace Go.Proofs.YtponpgcpmlcdpaaGreatDoor
open Go.RowKit Go.Shelf
def HTab (w:World):Prop:=∀k,k < 16→w.cell? ⟨1,k,none⟩=some (.int .u32 (Cm.tab.getD k 0))
theorem HTab.below {B:Nat} {w w':World} (h:HTab w) (hb:Below B w w') (hB:w.heap.size≤B):HTab w':=fun k hk=>by
 have h1:=h k hk
 have h2:(⟨1,k,none⟩ : Addr).block < w.heap.size:=World.block_lt_of_cell? w _ h1
 rw [hb.cell (by omega),h1]
theorem HTab.alloc {w:World} (h:HTab w) (o:Obj):HTab (w.alloc o):=fun k hk=>by
 have h1:=h k hk
 rw [World.cell?_alloc_lt w o _ (World.block_lt_of_cell? w _ h1),h1]
set_option maxHeartbeats 1000000 in
theorem half_any (r : BitVec 32) (w : World) (ht : HTab w) :
  Calls Tryz.prog 135 #[.int .u32 (Cm.V r)] w fun e w'=>e = .returned (.int .u32 (Cm.V (Cm.s4 r)))∧w=w':=by
 have hk:r.toNat % 16 < 16:=Nat.mod_lt _ (by omega)
 have hc:=ht (r.toNat % 16) hk
 have ha:=Cm.v_and15 r
 have hs:=Lib.hid (Cm.v_shr4 r)
 have hf:=Cm.tab_fit ⟨r.toNat % 16,hk⟩
 dsimp only at hf
 have hx:=Lib.hid (Cm.v_xor (r >>> 4) hf.1 (by omega))
 have HE:=Lib.hid (Cm.s4_tab r)
 have hr:=Cm.V_fit r
 clear ht hf
 generalize r.toNat % 16=k at *
 generalize Cm.tab.getD k 0=c at *
 go_enter Tryz.func135,Tryz.ntmps135
 go_wp2
 go_ret
 exact ⟨by show Ending.returned (.int .u32 _)=_;rw [hs.out,hx.out,HE.out],rfl⟩
end Go.Proofs.YtponpgcpmlcdpaaGreatDoor
namespace Go.Proofs.YtponpgcpmlcdpaaGreatDoor
open Go.RowKit Go.Shelf
set_option maxHeartbeats 2000000 in
theorem Add_any (s : BitVec 32) (A : Option Addr) (n cap B : Nat) (xs : List Int) (w : World) (hx : Rd w B A (u8s xs)) (hn : xs.length = n) (hm : n ≤ maxLen) (hb : ∀ x ∈ xs, 0 ≤ x ∧ x ≤ 255) (ht : HTab w) :
  Calls Tryz.prog 132 #[.int .u32 (Cm.V s),.slice A n cap] w fun e w'=>e = .returned (.int .u32 (Cm.V (Cm.crc s xs)))∧w=w':=by
 unfold maxLen at hm
 have h1:=Cm.v_not s
 obtain ⟨ns,hns⟩ : ∃ns,ns = ~~~s:=⟨_,rfl⟩
 rw [←hns] at h1
 have HN:=Lib.hid hns
 have HT:=Lib.hid ht
 clear ht hns
 go_enter Tryz.func132,Tryz.ntmps132
 go_wp2
 clear h1
 go_loop [5,12] (fun r ix=>∃(k:Nat) (q:BitVec 32),ix = .int .i64 (k:Int)∧k≤n∧r = .int .u32 (Cm.V q)∧Hid (q=Cm.run ns (xs.take k)))
  (fun _ ix=>n - (intOf ix).toNat)
 case atStart=>exact ⟨0,ns,rfl,by omega,rfl,Lib.hid (by simp [Cm.run_nil])⟩
 case round =>
  obtain ⟨k,q,rfl,hk,rfl,HQ⟩:=hrel
  by_cases hlt:k < n
  ·obtain ⟨c,hc⟩ : ∃c,xs[k]? = some c:=⟨xs[k],List.getElem?_eq_getElem (by omega)⟩
   obtain ⟨ad,rfl,_,hcl⟩:=hx.getU hc
   have hcb:=hb c (List.mem_of_getElem? hc)
   have HS:Hid (Cm.stp q c=Cm.run ns (xs.take (k+1))):=by
    show _=_
    rw [Cm.run_take hc,HQ.out]
   have hxr:=Cm.v_xor q (c:=c) hcb.1 (by omega)
   obtain ⟨y,hy⟩ : ∃y,y=q ^^^ BitVec.ofInt 32 c:=⟨_,rfl⟩
   rw [←hy] at hxr
   have HY:Hid (Cm.s4 (Cm.s4 y)=Cm.stp q c):=by show _=_;rw [hy];rfl
   clear hc hb hx HQ hy
   go_wp2_with (go_at_call 135;refine (half_any _ _ HT.out).mono ?_;rintro e w' ⟨rfl,rfl⟩)
   go_round
   case rel=>exact ⟨k+1,Cm.s4 (Cm.s4 y),by go_num,by omega,rfl,by rw [HY.out];exact HS⟩
   case measure=>simp [intOf];omega
  ·have hq:q=Cm.run ns xs:=by rw [HQ.out,List.take_of_length_le (by omega)]
   have h2:=Cm.v_not q
   have HE:Hid (~~~q=Cm.crc s xs):=by show _=_;rw [hq,HN.out];rfl
   rw [HE.out] at h2
   clear hq HQ hx hb
   go_wp2
   go_ret
   exact ⟨rfl,rfl⟩
end Go.Proofs.YtponpgcpmlcdpaaGreatDoor
namespace Go.Proofs.YtponpgcpmlcdpaaGreatDoor
open Go.RowKit Go.Shelf
theorem Add_any0 (A : Option Addr) (n cap B : Nat) (xs : List Int) (w : World) (hx : Rd w B A (u8s xs)) (hn : xs.length = n) (hm : n ≤ maxLen) (hb : ∀ x ∈ xs, 0 ≤ x ∧ x ≤ 255) (ht : HTab w) :
  Calls Tryz.prog 132 #[.int .u32 0,.slice A n cap] w fun e w'=>e = .returned (.int .u32 (Cm.V (Cm.crc 0#32 xs)))∧w=w':=by
 have h:=Add_any 0#32 A n cap B xs w hx hn hm hb ht
 rwa [←Cm.V_zero] at h
set_option maxHeartbeats 1000000 in
theorem Sum_any (A : Option Addr) (n cap B : Nat) (xs : List Int) (w : World) (hx : Rd w B A (u8s xs)) (hn : xs.length = n) (hm : n ≤ maxLen) (hb : ∀ x ∈ xs, 0 ≤ x ∧ x ≤ 255) (ht : HTab w) :
  Calls Tryz.prog 128 #[.slice A n cap] w fun e w'=>e = .returned (.int .u32 (Cm.V (Cm.crc 0#32 xs)))∧w=w':=by
 have HC:=Lib.hid (Add_any0 A n cap B xs w hx hn hm hb ht)
 clear hx hn hm hb ht
 go_enter Tryz.func128,Tryz.ntmps128
 go_wp2_with (go_at_call 132;refine HC.out.mono ?_;rintro e w' ⟨rfl,rfl⟩)
 go_ret
 exact ⟨rfl,rfl⟩
def TabAt (w:World):Prop:=∀k,k < 16→w.cell? ⟨1,k,none⟩=some (.int .u32 (([0,498536548,997073096,651767980,1994146192,1802195444,1303535960,1342533948,3988292384,4027552580,3604390888,3412177804,2607071920,2262029012,2685067896,3183342108]:List Int).getD k 0))
theorem TabAt.tab {w:World} (h:TabAt w):HTab w:=h
end Go.Proofs.YtponpgcpmlcdpaaGreatDoor
