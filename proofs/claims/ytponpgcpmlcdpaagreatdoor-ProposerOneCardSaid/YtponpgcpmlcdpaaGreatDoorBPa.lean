import Derived.Test.YtponpgcpmlcdpaaGreatDoorBWx
import Derived.Test.YtponpgcpmlcdpaaGreatDoorBPm
import Derived.Test.YtponpgcpmlcdpaaGreatDoorBK
import Derived.Deep.MidRow
import Derived.Deep.WholeRow
set_option maxRecDepth 100000
namespace Go.Proofs.YtponpgcpmlcdpaaGreatDoor
open Go.RowKit Go.Shelf
def pv (x:Pm.Pl) (A:Option Addr) (n c:Nat) (A':Option Addr) (n' c':Nat):Value :=
 .agg #[.int .i64 x.e,.int .i64 x.t,.int .i64 x.p,.int .i64 x.s,.int .i64 x.c,.int .i64 x.st,.int .i64 x.si,.int .i64 x.ra,.int .u64 x.up,.int .u64 x.su,.slice A n c,.slice A' n' c']
theorem zjl (w:World) (o:Obj) {b:Nat} (h:b=w.heap.size):(w.alloc o).heap[b]? = some o:=by subst h;exact heap_alloc_new w o
theorem zin:(Tryz.prog.info? 154).map (·.size)=some 10:=by kernel_rfl
theorem sgw {n:Int} (h:Pm.U n):wrap64 n=Pm.sg n:=by
 unfold Pm.U at h
 unfold wrap64 Pm.sg
 split<;>omega
set_option maxHeartbeats 1000000 in
theorem zdy (x : Pm.Pl) (A : Option Addr) (n c : Nat) (A' : Option Addr) (n' c' : Nat) (w : World) (hx : x.Ok) :
  Calls Tryz.prog 99 #[pv x A n c A' n' c'] w fun e w'=>e = .returned (.agg (i64s x.nums).toArray)∧Below w.heap.size w w':=by
 have HE:Hid (i64s x.nums=[.int .i64 x.e,.int .i64 x.t,.int .i64 x.p,.int .i64 x.s,.int .i64 x.c,.int .i64 x.st,.int .i64 x.si,.int .i64 x.ra,.int .i64 (wrap64 x.up),.int .i64 (wrap64 x.su)]):=by
  rw [sgw hx.up,sgw hx.su];exact Lib.hid rfl
 clear hx
 unfold pv
 go_enter Tryz.func99,Tryz.ntmps99
 go_wp2
 refine bodyPost_ret (results_cell_row rfl _ _ (w.heap.size+1) _ _ (0,0) _ rfl (zjl _ _ (by simp)) Tryz.underlying154 rfl zin) rfl ?_
 rw [HE.out]
 exact ⟨rfl,(((Below.refl _ w).alloc (Nat.le_refl _) _).alloc (by simp) _)⟩
end Go.Proofs.YtponpgcpmlcdpaaGreatDoor
namespace Go.Proofs.YtponpgcpmlcdpaaGreatDoor
open Go.RowKit Go.Shelf
set_option maxHeartbeats 1000000 in
theorem zpa (A1 A2 : Option Addr) (n1 n2 c1 c2 B1 B2 : Nat) (xs ys : List Int) (w : World) (hx : Rd w B1 A1 (i64s xs)) (hy : Rd w B2 A2 (i64s ys)) (hn1 : xs.length = n1) (hn2 : ys.length = n2) (hm1 : n1 ≤ maxLen) :
  Calls Tryz.prog 100 #[.slice A1 n1 c1,.slice A2 n2 c2] w fun e w'=>e = .returned (.bool (Pm.ask (xs=ys)))∧w=w':=by
 unfold maxLen at hm1
 by_cases hne:n1=n2
 ·subst hne
  go_enter Tryz.func100,Tryz.ntmps100
  go_wp2
  go_loopw [14] (fun ix wr=>∃(k:Nat),ix = .int .i64 (k:Int)∧k≤n1∧Hid (xs.take k=ys.take k)∧Hid (wr=w)) (fun ix _=>n1 - (intOf ix).toNat)
  case atStart=>exact ⟨0,rfl,by omega,Lib.hid rfl,Lib.hid rfl⟩
  case round =>
   obtain ⟨k,rfl,hk,hT,hW⟩:=hrel
   have hx':Rd wr B1 A1 (i64s xs):=by rw [hW.out];exact hx
   have hy':Rd wr B2 A2 (i64s ys):=by rw [hW.out];exact hy
   by_cases hlt:k < n1
   ·obtain ⟨x,hxk⟩ : ∃x,xs[k]? = some x:=⟨xs[k],List.getElem?_eq_getElem (by omega)⟩
    obtain ⟨y,hyk⟩ : ∃y,ys[k]? = some y:=⟨ys[k],List.getElem?_eq_getElem (by omega)⟩
    obtain ⟨ad1,rfl,_,hc1⟩:=hx'.getU hxk
    obtain ⟨ad2,rfl,_,hc2⟩:=hy'.getU hyk
    have HX:=Lib.hid hxk
    have HY:=Lib.hid hyk
    clear hxk hyk hx hy hx' hy'
    by_cases hxy:x=y
    ·subst hxy
     have hb:(x != x)=false:=by simp
     go_wp2
     go_roundw
     case rel=>exact ⟨k+1,by go_num,by omega,Lib.hid (zk0 hT.out HX.out HY.out),hW⟩
     case measure=>simp [intOf];omega
    ·have hb:(x != y)=true:=by rw [bne_iff_ne];exact hxy
     have hne:xs≠ys:=by
      intro e
      have h1:=HX.out
      rw [e,HY.out] at h1
      exact hxy (by injection h1 with h1;exact h1.symm)
     have HE:=Lib.hid (Pm.zba hne)
     clear hne hxy
     go_wp2
     go_ret
     exact ⟨za3 HE.out.symm,hW.out.symm⟩
   ·have HE : Hid (Pm.ask (xs = ys) = true) := by
     have h:=hT.out
     rw [List.take_of_length_le (by omega),List.take_of_length_le (by omega)] at h
     exact Lib.hid (Pm.zbp h)
    clear hx hy hx' hy'
    go_wp2
    go_ret
    exact ⟨za3 HE.out.symm,hW.out.symm⟩
 ·have HE : Hid (Pm.ask (xs = ys) = false) := by
   have:xs≠ys:=by intro e;apply hne;rw [←hn1,←hn2,e]
   exact Lib.hid (Pm.zba this)
  have hb:((n1:Int) != (n2:Int))=true:=by rw [bne_iff_ne];omega
  clear hx hy
  go_enter Tryz.func100,Tryz.ntmps100
  go_wp2
  go_ret
  exact ⟨za3 HE.out.symm,rfl⟩
set_option maxHeartbeats 1000000 in
theorem zo9 (A1 A2 : Option Addr) (n1 n2 c1 c2 B1 B2 : Nat) (xs ys : List Int) (w : World) (hx : Rd w B1 A1 (i64s xs)) (hy : Rd w B2 A2 (i64s ys)) (hn1 : xs.length = n1) (hn2 : ys.length = n2) (hm1 : n1 ≤ maxLen) :
  Calls Tryz.prog 101 #[.slice A1 n1 c1,.slice A2 n2 c2] w fun e w'=>e = .returned (.bool (Pm.ask (xs=ys)))∧w=w':=by
 unfold maxLen at hm1
 by_cases hne:n1=n2
 ·subst hne
  go_enter Tryz.func101,Tryz.ntmps101
  go_wp2
  go_loopw [14] (fun ix wr=>∃(k:Nat),ix = .int .i64 (k:Int)∧k≤n1∧Hid (xs.take k=ys.take k)∧Hid (wr=w)) (fun ix _=>n1 - (intOf ix).toNat)
  case atStart=>exact ⟨0,rfl,by omega,Lib.hid rfl,Lib.hid rfl⟩
  case round =>
   obtain ⟨k,rfl,hk,hT,hW⟩:=hrel
   have hx':Rd wr B1 A1 (i64s xs):=by rw [hW.out];exact hx
   have hy':Rd wr B2 A2 (i64s ys):=by rw [hW.out];exact hy
   by_cases hlt:k < n1
   ·obtain ⟨x,hxk⟩ : ∃x,xs[k]? = some x:=⟨xs[k],List.getElem?_eq_getElem (by omega)⟩
    obtain ⟨y,hyk⟩ : ∃y,ys[k]? = some y:=⟨ys[k],List.getElem?_eq_getElem (by omega)⟩
    obtain ⟨ad1,rfl,_,hc1⟩:=hx'.getU hxk
    obtain ⟨ad2,rfl,_,hc2⟩:=hy'.getU hyk
    have HX:=Lib.hid hxk
    have HY:=Lib.hid hyk
    clear hxk hyk hx hy hx' hy'
    by_cases hxy:x=y
    ·subst hxy
     have hb:(x != x)=false:=by simp
     go_wp2
     go_roundw
     case rel=>exact ⟨k+1,by go_num,by omega,Lib.hid (zk0 hT.out HX.out HY.out),hW⟩
     case measure=>simp [intOf];omega
    ·have hb:(x != y)=true:=by rw [bne_iff_ne];exact hxy
     have hne:xs≠ys:=by
      intro e
      have h1:=HX.out
      rw [e,HY.out] at h1
      exact hxy (by injection h1 with h1;exact h1.symm)
     have HE:=Lib.hid (Pm.zba hne)
     clear hne hxy
     go_wp2
     go_ret
     exact ⟨za3 HE.out.symm,hW.out.symm⟩
   ·have HE : Hid (Pm.ask (xs = ys) = true) := by
     have h:=hT.out
     rw [List.take_of_length_le (by omega),List.take_of_length_le (by omega)] at h
     exact Lib.hid (Pm.zbp h)
    clear hx hy hx' hy'
    go_wp2
    go_ret
    exact ⟨za3 HE.out.symm,hW.out.symm⟩
 ·have HE : Hid (Pm.ask (xs = ys) = false) := by
   have:xs≠ys:=by intro e;apply hne;rw [←hn1,←hn2,e]
   exact Lib.hid (Pm.zba this)
  have hb:((n1:Int) != (n2:Int))=true:=by rw [bne_iff_ne];omega
  clear hx hy
  go_enter Tryz.func101,Tryz.ntmps101
  go_wp2
  go_ret
  exact ⟨za3 HE.out.symm,rfl⟩
set_option maxHeartbeats 1000000 in
theorem zl2 (A : Option Addr) (n c B : Nat) (xs : List Int) (size : Nat) (most : Int) (w : World) (hx : Rd w B A (i64s xs)) (hn : xs.length = n) (hm1 : n ≤ maxLen) :
  Calls Tryz.prog 111 #[.slice A n c,.int .i64 (size:Int),.int .i64 most] w fun e w'=>e = .returned (.bool (Pm.ask (Pm.Bd xs size most)))∧w=w':=by
 unfold maxLen at hm1
 by_cases hs:size < n
 ·have HE:Hid (Pm.ask (Pm.Bd xs size most)=false):=Pm.zba (fun h=>by have:=h.1;omega)
  clear hx
  go_enter Tryz.func111,Tryz.ntmps111
  go_wp2
  go_ret
  exact ⟨za3 HE.out.symm,rfl⟩
 ·go_enter Tryz.func111,Tryz.ntmps111
  go_wp2
  go_loopw [15] (fun ix wr=>∃(k:Nat),ix = .int .i64 (k:Int)∧k≤n∧Hid (∀m∈xs.take k,0≤m∧m≤most)∧Hid (wr=w)) (fun ix _=>n - (intOf ix).toNat)
  case atStart=>exact ⟨0,rfl,by omega,Lib.hid (fun m h=>absurd h List.not_mem_nil),Lib.hid rfl⟩
  case round =>
   obtain ⟨k,rfl,hk,hT,hW⟩:=hrel
   have hx':Rd wr B A (i64s xs):=by rw [hW.out];exact hx
   by_cases hlt:k < n
   ·obtain ⟨x,hxk⟩ : ∃x,xs[k]? = some x:=⟨xs[k],List.getElem?_eq_getElem (by omega)⟩
    obtain ⟨ad1,rfl,_,hc1⟩:=hx'.getU hxk
    by_cases h0:x < 0
    ·have HE:Hid (Pm.ask (Pm.Bd xs size most)=false):=Pm.zba (fun h=>by have:=(h.2 x (List.mem_of_getElem? hxk)).1;omega)
     clear hxk hx hx'
     go_wp2
     go_ret
     exact ⟨za3 HE.out.symm,hW.out.symm⟩
    ·by_cases h1:most < x
     ·have HE:Hid (Pm.ask (Pm.Bd xs size most)=false):=Pm.zba (fun h=>by have:=(h.2 x (List.mem_of_getElem? hxk)).2;omega)
      clear hxk hx hx'
      go_wp2
      go_ret
      exact ⟨za3 HE.out.symm,hW.out.symm⟩
     ·have HS : Hid (∀ m ∈ xs.take (k + 1), 0 ≤ m ∧ m ≤ most) := by
       intro m hm
       rw [List.take_add_one,hxk] at hm
       rcases List.mem_append.1 hm with h|h
       ·exact hT.out m h
       ·simp at h;subst h;omega
      clear hxk hx hx'
      go_wp2
      go_roundw
      case rel=>exact ⟨k+1,by go_num,by omega,HS,hW⟩
      case measure=>simp [intOf];omega
   ·have HE : Hid (Pm.ask (Pm.Bd xs size most) = true) := by
     refine Pm.zbp ⟨by omega,?_⟩
     have h:=hT.out
     rw [List.take_of_length_le (by omega)] at h
     exact h
    clear hx hx'
    go_wp2
    go_ret
    exact ⟨za3 HE.out.symm,hW.out.symm⟩
set_option maxHeartbeats 1000000 in
theorem zfo (A : Option Addr) (n c B : Nat) (xs : List Int) (size : Nat) (most : Int) (w : World) (hx : Rd w B A (i64s xs)) (hn : xs.length = n) (hm1 : n ≤ maxLen) :
  Calls Tryz.prog 112 #[.slice A n c,.int .i64 (size:Int),.int .i64 most] w fun e w'=>e = .returned (.bool (Pm.ask (Pm.Bd xs size most)))∧w=w':=by
 unfold maxLen at hm1
 by_cases hs:size < n
 ·have HE:Hid (Pm.ask (Pm.Bd xs size most)=false):=Pm.zba (fun h=>by have:=h.1;omega)
  clear hx
  go_enter Tryz.func112,Tryz.ntmps112
  go_wp2
  go_ret
  exact ⟨za3 HE.out.symm,rfl⟩
 ·go_enter Tryz.func112,Tryz.ntmps112
  go_wp2
  go_loopw [15] (fun ix wr=>∃(k:Nat),ix = .int .i64 (k:Int)∧k≤n∧Hid (∀m∈xs.take k,0≤m∧m≤most)∧Hid (wr=w)) (fun ix _=>n - (intOf ix).toNat)
  case atStart=>exact ⟨0,rfl,by omega,Lib.hid (fun m h=>absurd h List.not_mem_nil),Lib.hid rfl⟩
  case round =>
   obtain ⟨k,rfl,hk,hT,hW⟩:=hrel
   have hx':Rd wr B A (i64s xs):=by rw [hW.out];exact hx
   by_cases hlt:k < n
   ·obtain ⟨x,hxk⟩ : ∃x,xs[k]? = some x:=⟨xs[k],List.getElem?_eq_getElem (by omega)⟩
    obtain ⟨ad1,rfl,_,hc1⟩:=hx'.getU hxk
    by_cases h0:x < 0
    ·have HE:Hid (Pm.ask (Pm.Bd xs size most)=false):=Pm.zba (fun h=>by have:=(h.2 x (List.mem_of_getElem? hxk)).1;omega)
     clear hxk hx hx'
     go_wp2
     go_ret
     exact ⟨za3 HE.out.symm,hW.out.symm⟩
    ·by_cases h1:most < x
     ·have HE:Hid (Pm.ask (Pm.Bd xs size most)=false):=Pm.zba (fun h=>by have:=(h.2 x (List.mem_of_getElem? hxk)).2;omega)
      clear hxk hx hx'
      go_wp2
      go_ret
      exact ⟨za3 HE.out.symm,hW.out.symm⟩
     ·have HS : Hid (∀ m ∈ xs.take (k + 1), 0 ≤ m ∧ m ≤ most) := by
       intro m hm
       rw [List.take_add_one,hxk] at hm
       rcases List.mem_append.1 hm with h|h
       ·exact hT.out m h
       ·simp at h;subst h;omega
      clear hxk hx hx'
      go_wp2
      go_roundw
      case rel=>exact ⟨k+1,by go_num,by omega,HS,hW⟩
      case measure=>simp [intOf];omega
   ·have HE : Hid (Pm.ask (Pm.Bd xs size most) = true) := by
     refine Pm.zbp ⟨by omega,?_⟩
     have h:=hT.out
     rw [List.take_of_length_le (by omega)] at h
     exact h
    clear hx hx'
    go_wp2
    go_ret
    exact ⟨za3 HE.out.symm,hW.out.symm⟩
theorem zq1 (n:Int) (w:World):Calls Tryz.prog 129 #[.int .i64 n] w fun e w'=>e = .returned (.bool false)∧w=w':=by
 have hb:(n != n)=false:=by simp
 go_enter Tryz.func129,Tryz.ntmps129
 go_wp2
 go_ret
 exact ⟨za3 (by simp),rfl⟩
theorem zol (a b:Int) (w:World):Calls Tryz.prog 123 #[.int .i64 a,.int .i64 b] w fun e w'=>e = .returned (.bool (decide (a < b)))∧w=w':=by
 go_enter Tryz.func123,Tryz.ntmps123
 go_wp2_with (go_at_call 129;refine (zq1 a _).mono ?_;rintro e w' ⟨rfl,rfl⟩)
 go_ret
 exact ⟨rfl,rfl⟩
theorem wrap_id {n:Int} (h1 : -9223372036854775808≤n) (h2:n≤9223372036854775807):IntKind.i64.wrap n=n:=by
 simp [IntKind.wrap,IntKind.signed,IntKind.bits];omega
theorem sd_step {xs : List Int} {k : Nat} {x y : Int} (hx : xs[k + 1]? = some x) (hy : xs[k]? = some y) (h : ∀ j, k + 1 ≤ j → j + 1 < xs.length → xs.getD j 0 ≤ xs.getD (j + 1) 0) (hl : ¬ x < y) :
  ∀j,k≤j→j+1 < xs.length→xs.getD j 0≤xs.getD (j+1) 0:=by
 intro j hj hjl
 by_cases e:j=k
 ·subst e
  rw [List.getD_eq_getElem?_getD,List.getD_eq_getElem?_getD,hx,hy]
  simp;omega
 ·exact h j (by omega) hjl
set_option maxHeartbeats 1000000 in
theorem zhf (A : Option Addr) (n c B : Nat) (xs : List Int) (w : World) (hx : Rd w B A (i64s xs)) (hn : xs.length = n) (hm1 : n ≤ maxLen) :
  Calls Tryz.prog 113 #[.slice A n c] w fun e w'=>e = .returned (.bool (Pm.ask (Pm.Sd xs)))∧∃d,w'=w.drewN d:=by
 unfold maxLen at hm1
 go_enter Tryz.func113,Tryz.ntmps113
 go_wp2
 go_loopw [3] (fun ix wr=>∃(k:Int) (nd:Nat),ix = .int .i64 k ∧ -1≤k∧k≤(n:Int) - 1∧Hid (∀j:Nat,k≤j→j+1 < xs.length→xs.getD j 0≤xs.getD (j+1) 0)∧Hid (wr=w.drewN nd)) (fun ix _=>(intOf ix).toNat)
 case atStart=>exact ⟨(n:Int) - 1,0,by go_num,by omega,by omega,Lib.hid (fun j h1 h2=>by omega),Lib.hid rfl⟩
 case round =>
  obtain ⟨k,nd,rfl,hk,hk2,hT,hW⟩:=hrel
  have hx':Rd wr B A (i64s xs):=by rw [hW.out];exact hx
  by_cases hlt:0 < k
  ·obtain ⟨m,rfl⟩:=Int.eq_ofNat_of_zero_le (show 0≤k by omega)
   obtain ⟨i,hi⟩ : ∃i:Nat,m=i+1:=⟨m - 1,by omega⟩
   obtain ⟨x,hxk⟩ : ∃x,xs[m]? = some x:=⟨xs[m]'(by omega),List.getElem?_eq_getElem (by omega)⟩
   obtain ⟨y,hyk⟩ : ∃y,xs[i]? = some y:=⟨xs[i]'(by omega),List.getElem?_eq_getElem (by omega)⟩
   obtain ⟨ad1,rfl,_,hc1⟩:=hx'.getU hxk
   obtain ⟨ad2,e2,_,hc2⟩:=hx'.getU hyk
   obtain rfl:ad1=ad2:=by injection e2
   have hmn:(m:Int) < (n:Int):=by omega
   have him:(i:Int) < (n:Int):=by omega
   have hi1:(m:Int) - 1=(i:Int):=by omega
   have hi2:IntKind.i64.wrap ((m:Int) - 1)=(i:Int):=by rw [hi1];exact wrap_id (by omega) (by omega)
   have HI:=Lib.hid hi
   rw [hi] at hxk
   clear e2 hi
   by_cases hl:x < y
   ·have HE : Hid (Pm.ask (Pm.Sd xs) = false) := Pm.zba (fun h => by
     have hil:i+1 < xs.length:=(List.getElem?_eq_some_iff.1 hxk).1
     have:=h i hil
     rw [List.getD_eq_getElem?_getD,List.getD_eq_getElem?_getD,hxk,hyk] at this
     simp at this;omega)
    clear hxk hyk hx hx' hT
    go_wp2_with fail
    go_quiet (first|(go_at_call 123;exact Calls.quiet_of_same ((zol x y _).mono fun _ _ h=>⟨h.1,h.2.symm⟩)))
    go_wp2
    go_ret
    exact ⟨za3 HE.out.symm,nd+_,by rw [hW.out,World.drewN_drewN]⟩
   ·have HS:=Lib.hid (sd_step hxk hyk (fun j h1 h2=>hT.out j (by have:=HI.out;omega) h2) hl)
    clear hxk hyk hx hx' hT
    go_wp2_with fail
    go_quiet (first|(go_at_call 123;exact Calls.quiet_of_same ((zol x y _).mono fun _ _ h=>⟨h.1,h.2.symm⟩)))
    go_wp2
    go_roundw
    case rel=>exact ⟨(i:Int),nd+_,by go_num,by omega,by omega,Lib.hid (fun j h1 h2=>HS.out j (by omega) h2),Lib.hid (by rw [hW.out,World.drewN_drewN])⟩
    case measure=>simp [intOf];omega
  ·have HE:Hid (Pm.ask (Pm.Sd xs)=true):=Pm.zbp (fun j hj=>hT.out j (by omega) hj)
   clear hx hx' hT
   go_wp2
   go_ret
   exact ⟨za3 HE.out.symm,nd,hW.out⟩
end Go.Proofs.YtponpgcpmlcdpaaGreatDoor
namespace Go.Proofs.YtponpgcpmlcdpaaGreatDoor
open Go.RowKit Go.Shelf
def spans:List Int:=[0,9223372036854775807,-1,15,-1,15,-1,15,0,100,0,1099511627776,0,1099511627776,0,1099511627776,0,65535,0,65535]
def spv:List Value:=i64s spans
theorem spv_len:spv.length=20:=rfl
def Tab (w:World):Prop:=∀k,k < 20→w.cell? ⟨0,k,none⟩=some (.int .i64 (spans.getD k 0))
theorem Tab.below {B:Nat} {w w':World} (h:Tab w) (hb:Below B w w') (hB:w.heap.size≤B):Tab w':=fun k hk=>by
 have h1:=h k hk
 have h2:(⟨0,k,none⟩ : Addr).block < w.heap.size:=World.block_lt_of_cell? w _ h1
 rw [hb.cell (by omega),h1]
theorem Tab.alloc {w:World} (h:Tab w) (o:Obj):Tab (w.alloc o):=fun k hk=>by
 have h1:=h k hk
 rw [World.cell?_alloc_lt w o _ (World.block_lt_of_cell? w _ h1),h1]
theorem zjq:(Tryz.prog.info? 172).map (·.size)=some 20:=by kernel_rfl
theorem zq2:(Tryz.prog.info? 171).map (·.size)=some 2:=by kernel_rfl
theorem Tab.range {w : World} (h : Tab w) : w.rangeAt 0 0 spv := fun j v hv => by
  have hj:j < 20:=by have:=(List.getElem?_eq_some_iff.1 hv).1;rwa [spv_len] at this
  rw [Nat.zero_add,h j hj]
  unfold spv at hv
  rw [List.getElem?_map] at hv
  rw [List.getD_eq_getElem?_getD]
  cases hs:spans[j]? with
  |none=>rw [hs] at hv;cases hv
  |some z=>rw [hs] at hv;simpa using hv
theorem zio (k:Nat) (hk:k < 10) (w:World):(Instr.index 172 (.agg spv.toArray) (.int .i64 (k:Int))).run Tryz.prog w = .ok (.agg #[.int .i64 (Pm.lows.getD k 0),.int .i64 (Pm.tops.getD k 0)]) w:=by
 have hu:=run_underlying (P:=Tryz.prog) Tryz.underlying172 w
 have hu2:=run_underlying (P:=Tryz.prog) Tryz.underlying171 w
 have hs:(sizeOf 171).run Tryz.prog w = .ok 2 w:=by
  have h:=zq2
  cases hq:Tryz.prog.info? 171 with
  |none=>rw [hq] at h;cases h
  | some i =>
    rw [hq] at h
    simp only [Option.map_some,Option.some.injEq] at h
    simp [sizeOf,typeInfo,hq,h]
 have hlt:(k:Int) < 10:=by omega
 have hg:isAgg 171=(do match ←underlying 171 with | .struct _ | .array _ _=>pure true|_=>pure false:Sem Bool):=rfl
 have ha:(isAgg 171).run Tryz.prog w = .ok true w:=by
  rw [hg,Sem.run_bind,hu2];rfl
 have hp:(part 171 spv.toArray (k * 2)).run Tryz.prog w = .ok (.agg (spv.toArray.extract (k * 2) (k * 2+2))) w:=by
  unfold part
  rw [Sem.run_bind,ha]
  show (Sem.run Tryz.prog (do pure (Value.agg (spv.toArray.extract (k * 2) (k * 2+(←sizeOf 171))))) w)=_
  rw [Sem.run_bind,hs]
  rfl
 have hpe:spv.toArray.extract (k * 2) (k * 2+2) = #[.int .i64 (Pm.lows.getD k 0),.int .i64 (Pm.tops.getD k 0)]:=by
  match k,hk with
  |0,_=>rfl
  |1,_=>rfl
  |2,_=>rfl
  |3,_=>rfl
  |4,_=>rfl
  |5,_=>rfl
  |6,_=>rfl
  |7,_=>rfl
  |8,_=>rfl
  |9,_=>rfl
 rw [hpe] at hp
 unfold Instr.index
 rw [Sem.run_bind]
 simp only [asIntOf,Sem.run_pure,Result.andThen_ok,Sem.run_bind,hu]
 rw [if_pos ⟨Int.natCast_nonneg k,hlt⟩,Sem.run_bind,hs]
 exact hp
set_option maxHeartbeats 4000000 in
theorem zov (ns : List Int) (A1 A2 : Option Addr) (n1 n2 c1 c2 B : Nat) (pen ch : List Int) (w : World) (hns : ns.length = 10) (hx : Rd w B A1 (i64s pen)) (hn1 : pen.length = n1) (hm1 : n1 ≤ maxLen) (hy : Rd w B A2 (i64s ch)) (hn2 : ch.length = n2) (hm2 : n2 ≤ maxLen)
  (hB:B≤w.heap.size) (ht:Tab w) :
  Calls Tryz.prog 98 #[.agg (i64s ns).toArray,.slice A1 n1 c1,.slice A2 n2 c2] w fun e w'=>e = .returned (.bool (Pm.ask (Pm.Rt ns pen ch)))∧Below w.heap.size w w':=by
 have HX:=Lib.hid hx
 have HY:=Lib.hid hy
 have HT:=Lib.hid ht
 have HN1:=Lib.hid hn1
 have HN2:=Lib.hid hn2
 have hw1:Hid (Rd (w.alloc (.cells (i64s ns).toArray 154)) (w.heap.size+1) (some ⟨w.heap.size,0,none⟩) (i64s ns)):=Rd.new w (w.heap.size+1) (i64s ns) 154 (0,0) (by omega)
 have hb1:Hid (Below w.heap.size w (w.alloc (.cells (i64s ns).toArray 154))):=(Below.refl _ w).alloc (Nat.le_refl _) _
 have hz1:(w.alloc (.cells (i64s ns).toArray 154)).heap.size=w.heap.size+1:=World.size_alloc ..
 have hld:=Lib.hid (ht.alloc (.cells (i64s ns).toArray 154)).range
 clear hx hy ht hn1 hn2
 go_enter Tryz.func98,Tryz.ntmps98
 go_wp2_with (refine wpList_load_mid rfl 172 _ rfl 0 0 rfl spv _ hld.out Tryz.underlying172 rfl zjq ?_)
 go_loopw [10] (fun ix wr=>∃(k:Nat),ix = .int .i64 (k:Int)∧k≤10∧Hid (∀j,j < k→Pm.At ns j)∧Hid (Below (w.heap.size+1) (w.alloc (.cells (i64s ns).toArray 154)) wr)) (fun ix _=>10 - (intOf ix).toNat)
 case atStart=>exact ⟨0,rfl,by omega,Lib.hid (fun j h=>absurd h (Nat.not_lt_zero j)),Lib.hid (Below.refl _ _)⟩
 case round =>
  obtain ⟨k,rfl,hk,hA,hb2⟩:=hrel
  have hsz:w.heap.size+1≤wr.heap.size:=by have:=hb2.out.size;rw [hz1] at this;exact this
  by_cases hlt:k < 10
  ·obtain ⟨x,hxk⟩ : ∃x,ns[k]? = some x:=⟨ns[k]'(by omega),List.getElem?_eq_getElem (by omega)⟩
   obtain ⟨ad,e1,_,hc1⟩:=(hw1.out.below hb2.out).getU hxk
   cases e1
   have hAt:Hid (Pm.At ns k=(Pm.lows.getD k 0≤x∧x≤Pm.tops.getD k 0)):=by
    unfold Pm.At
    rw [List.getD_eq_getElem?_getD (l:=ns),hxk]
    exact Lib.hid rfl
   have hix:=zio k hlt
   clear hxk
   generalize Pm.lows.getD k 0=lo at *
   generalize Pm.tops.getD k 0=hi at *
   have hc2:(wr.alloc (.cells #[.int .i64 lo,.int .i64 hi] 171)).cell? ((⟨w.heap.size,0,none⟩ : Addr).add k)=some (.int .i64 x):=by
    rw [World.cell?_alloc_lt _ _ _ (by rw [zb1];omega)];exact hc1
   have hb3:=Lib.hid (hb2.out.alloc hsz (.cells #[.int .i64 lo,.int .i64 hi] 171))
   have hc3:(wr.alloc (.cells #[.int .i64 lo,.int .i64 hi] 171)).cell? ⟨w.heap.size,k,none⟩=some (.int .i64 x):=by
    rw [Addr.add_mid,Nat.zero_add] at hc2;exact hc2
   clear hc1 hc2
   by_cases h0:x < lo
   ·have HE:Hid (Pm.ask (Pm.Rt ns pen ch)=false):=Pm.zba (fun h=>by have:=h.1 k hlt;rw [hAt.out] at this;omega)
    have d0:decide (x < lo)=true:=by simpa using h0
    go_wp2_with fail
    go_quiet (fail)
    go_wp2
    go_ret
    exact ⟨za3 HE.out.symm,za8 (hb1.out.trans (hb3.out.mono (by omega))) _⟩
   ·have d0:decide (x < lo)=false:=by simpa using h0
    by_cases h1:hi < x
    ·have HE:Hid (Pm.ask (Pm.Rt ns pen ch)=false):=Pm.zba (fun h=>by have:=h.1 k hlt;rw [hAt.out] at this;omega)
     go_wp2_with fail
     go_quiet (fail)
     go_wp2
     go_ret
     exact ⟨za3 HE.out.symm,za8 (hb1.out.trans (hb3.out.mono (by omega))) _⟩
    ·have HA : Hid (∀ j, j < k + 1 → Pm.At ns j) := by
      intro j hj
      by_cases e:j=k
      ·rw [e,hAt.out];omega
      ·exact hA.out j (by omega)
     go_wp2_with fail
     go_quiet (fail)
     go_wp2
     go_roundw
     case rel=>exact ⟨k+1,by go_num,by omega,HA,Lib.hid (za8 hb3.out _)⟩
     case measure=>simp [intOf];omega
  ·obtain rfl:k=10:=by omega
   have hbw:=Lib.hid (hb1.out.trans (hb2.out.mono (Nat.le_succ _)))
   have HP:=Lib.hid (zl2 A1 n1 c1 B pen 16 1000000 wr (HX.out.below (hbw.out.mono hB)) HN1.out hm1)
   have HC:=Lib.hid (zfo A2 n2 c2 B ch 8 1099511627776 wr (HY.out.below (hbw.out.mono hB)) HN2.out hm2)
   have HS:=Lib.hid (zhf A2 n2 c2 B ch wr (HY.out.below (hbw.out.mono hB)) HN2.out hm2)
   by_cases p1:Pm.Bd pen 16 1000000
   ·rw [Pm.zbp p1] at HP
    by_cases p2:Pm.Bd ch 8 1099511627776
    ·rw [Pm.zbp p2] at HC
     have HE:Hid (Pm.ask (Pm.Rt ns pen ch)=Pm.ask (Pm.Sd ch)):=by
      by_cases p3:Pm.Sd ch
      ·rw [Pm.zbp p3];exact Pm.zbp ⟨hA.out,p1,p2,p3⟩
      ·rw [Pm.zba p3];exact Pm.zba (fun h=>p3 h.2.2.2)
     clear p1 p2
     go_wp2_with (go_at_call 111;fail)
     refine HP.out.mono ?_
     rintro e w' ⟨rfl,rfl⟩
     go_wp2_with (go_at_call 112;fail)
     refine HC.out.mono ?_
     rintro e w' ⟨rfl,rfl⟩
     go_wp2_with (go_at_call 113;fail)
     refine HS.out.mono ?_
     rintro e w' ⟨rfl,nd,rfl⟩
     go_wp2
     go_ret
     exact ⟨za3 HE.out.symm,za8 hbw.out _⟩
    ·rw [Pm.zba p2] at HC
     have HE:Hid (Pm.ask (Pm.Rt ns pen ch)=false):=Pm.zba (fun h=>p2 h.2.2.1)
     clear p1 p2
     go_wp2_with (go_at_call 111;fail)
     refine HP.out.mono ?_
     rintro e w' ⟨rfl,rfl⟩
     go_wp2_with (go_at_call 112;fail)
     refine HC.out.mono ?_
     rintro e w' ⟨rfl,rfl⟩
     go_wp2
     go_ret
     exact ⟨za3 HE.out.symm,hbw.out⟩
   ·rw [Pm.zba p1] at HP
    have HE:Hid (Pm.ask (Pm.Rt ns pen ch)=false):=Pm.zba (fun h=>p1 h.2.1)
    clear p1
    go_wp2_with (go_at_call 111;refine HP.out.mono ?_;rintro e w' ⟨rfl,rfl⟩)
    go_ret
    exact ⟨za3 HE.out.symm,hbw.out⟩
set_option maxHeartbeats 4000000 in
theorem zou (ns : List Int) (A1 A2 : Option Addr) (n1 n2 c1 c2 B : Nat) (pen ch : List Int) (w : World) (hns : ns.length = 10) (hx : Rd w B A1 (i64s pen)) (hn1 : pen.length = n1) (hm1 : n1 ≤ maxLen) (hy : Rd w B A2 (i64s ch)) (hn2 : ch.length = n2) (hm2 : n2 ≤ maxLen)
  (hB:B≤w.heap.size) (ht:Tab w) :
  Calls Tryz.prog 107 #[.agg (i64s ns).toArray,.slice A1 n1 c1,.slice A2 n2 c2] w fun e w'=>e = .returned (.bool (Pm.ask (Pm.Rt ns pen ch)))∧Below w.heap.size w w':=by
 have HX:=Lib.hid hx
 have HY:=Lib.hid hy
 have HT:=Lib.hid ht
 have HN1:=Lib.hid hn1
 have HN2:=Lib.hid hn2
 have hw1:Hid (Rd (w.alloc (.cells (i64s ns).toArray 154)) (w.heap.size+1) (some ⟨w.heap.size,0,none⟩) (i64s ns)):=Rd.new w (w.heap.size+1) (i64s ns) 154 (0,0) (by omega)
 have hb1:Hid (Below w.heap.size w (w.alloc (.cells (i64s ns).toArray 154))):=(Below.refl _ w).alloc (Nat.le_refl _) _
 have hz1:(w.alloc (.cells (i64s ns).toArray 154)).heap.size=w.heap.size+1:=World.size_alloc ..
 have hld:=Lib.hid (ht.alloc (.cells (i64s ns).toArray 154)).range
 clear hx hy ht hn1 hn2
 go_enter Tryz.func107,Tryz.ntmps107
 go_wp2_with (refine wpList_load_mid rfl 172 _ rfl 0 0 rfl spv _ hld.out Tryz.underlying172 rfl zjq ?_)
 go_loopw [10] (fun ix wr=>∃(k:Nat),ix = .int .i64 (k:Int)∧k≤10∧Hid (∀j,j < k→Pm.At ns j)∧Hid (Below (w.heap.size+1) (w.alloc (.cells (i64s ns).toArray 154)) wr)) (fun ix _=>10 - (intOf ix).toNat)
 case atStart=>exact ⟨0,rfl,by omega,Lib.hid (fun j h=>absurd h (Nat.not_lt_zero j)),Lib.hid (Below.refl _ _)⟩
 case round =>
  obtain ⟨k,rfl,hk,hA,hb2⟩:=hrel
  have hsz:w.heap.size+1≤wr.heap.size:=by have:=hb2.out.size;rw [hz1] at this;exact this
  by_cases hlt:k < 10
  ·obtain ⟨x,hxk⟩ : ∃x,ns[k]? = some x:=⟨ns[k]'(by omega),List.getElem?_eq_getElem (by omega)⟩
   obtain ⟨ad,e1,_,hc1⟩:=(hw1.out.below hb2.out).getU hxk
   cases e1
   have hAt:Hid (Pm.At ns k=(Pm.lows.getD k 0≤x∧x≤Pm.tops.getD k 0)):=by
    unfold Pm.At
    rw [List.getD_eq_getElem?_getD (l:=ns),hxk]
    exact Lib.hid rfl
   have hix:=zio k hlt
   clear hxk
   generalize Pm.lows.getD k 0=lo at *
   generalize Pm.tops.getD k 0=hi at *
   have hc2:(wr.alloc (.cells #[.int .i64 lo,.int .i64 hi] 171)).cell? ((⟨w.heap.size,0,none⟩ : Addr).add k)=some (.int .i64 x):=by
    rw [World.cell?_alloc_lt _ _ _ (by rw [zb1];omega)];exact hc1
   have hb3:=Lib.hid (hb2.out.alloc hsz (.cells #[.int .i64 lo,.int .i64 hi] 171))
   have hc3:(wr.alloc (.cells #[.int .i64 lo,.int .i64 hi] 171)).cell? ⟨w.heap.size,k,none⟩=some (.int .i64 x):=by
    rw [Addr.add_mid,Nat.zero_add] at hc2;exact hc2
   clear hc1 hc2
   by_cases h0:x < lo
   ·have HE:Hid (Pm.ask (Pm.Rt ns pen ch)=false):=Pm.zba (fun h=>by have:=h.1 k hlt;rw [hAt.out] at this;omega)
    have d0:decide (x < lo)=true:=by simpa using h0
    go_wp2_with fail
    go_quiet (fail)
    go_wp2
    go_ret
    exact ⟨za3 HE.out.symm,za8 (hb1.out.trans (hb3.out.mono (by omega))) _⟩
   ·have d0:decide (x < lo)=false:=by simpa using h0
    by_cases h1:hi < x
    ·have HE:Hid (Pm.ask (Pm.Rt ns pen ch)=false):=Pm.zba (fun h=>by have:=h.1 k hlt;rw [hAt.out] at this;omega)
     go_wp2_with fail
     go_quiet (fail)
     go_wp2
     go_ret
     exact ⟨za3 HE.out.symm,za8 (hb1.out.trans (hb3.out.mono (by omega))) _⟩
    ·have HA : Hid (∀ j, j < k + 1 → Pm.At ns j) := by
      intro j hj
      by_cases e:j=k
      ·rw [e,hAt.out];omega
      ·exact hA.out j (by omega)
     go_wp2_with fail
     go_quiet (fail)
     go_wp2
     go_roundw
     case rel=>exact ⟨k+1,by go_num,by omega,HA,Lib.hid (za8 hb3.out _)⟩
     case measure=>simp [intOf];omega
  ·obtain rfl:k=10:=by omega
   have hbw:=Lib.hid (hb1.out.trans (hb2.out.mono (Nat.le_succ _)))
   have HP:=Lib.hid (zfo A1 n1 c1 B pen 16 1000000 wr (HX.out.below (hbw.out.mono hB)) HN1.out hm1)
   have HC:=Lib.hid (zfo A2 n2 c2 B ch 8 1099511627776 wr (HY.out.below (hbw.out.mono hB)) HN2.out hm2)
   have HS:=Lib.hid (zhf A2 n2 c2 B ch wr (HY.out.below (hbw.out.mono hB)) HN2.out hm2)
   by_cases p1:Pm.Bd pen 16 1000000
   ·rw [Pm.zbp p1] at HP
    by_cases p2:Pm.Bd ch 8 1099511627776
    ·rw [Pm.zbp p2] at HC
     have HE:Hid (Pm.ask (Pm.Rt ns pen ch)=Pm.ask (Pm.Sd ch)):=by
      by_cases p3:Pm.Sd ch
      ·rw [Pm.zbp p3];exact Pm.zbp ⟨hA.out,p1,p2,p3⟩
      ·rw [Pm.zba p3];exact Pm.zba (fun h=>p3 h.2.2.2)
     clear p1 p2
     go_wp2_with (go_at_call 112;fail)
     refine HP.out.mono ?_
     rintro e w' ⟨rfl,rfl⟩
     go_wp2_with (go_at_call 112;fail)
     refine HC.out.mono ?_
     rintro e w' ⟨rfl,rfl⟩
     go_wp2_with (go_at_call 113;fail)
     refine HS.out.mono ?_
     rintro e w' ⟨rfl,nd,rfl⟩
     go_wp2
     go_ret
     exact ⟨za3 HE.out.symm,za8 hbw.out _⟩
    ·rw [Pm.zba p2] at HC
     have HE:Hid (Pm.ask (Pm.Rt ns pen ch)=false):=Pm.zba (fun h=>p2 h.2.2.1)
     clear p1 p2
     go_wp2_with (go_at_call 112;fail)
     refine HP.out.mono ?_
     rintro e w' ⟨rfl,rfl⟩
     go_wp2_with (go_at_call 112;fail)
     refine HC.out.mono ?_
     rintro e w' ⟨rfl,rfl⟩
     go_wp2
     go_ret
     exact ⟨za3 HE.out.symm,hbw.out⟩
   ·rw [Pm.zba p1] at HP
    have HE:Hid (Pm.ask (Pm.Rt ns pen ch)=false):=Pm.zba (fun h=>p1 h.2.1)
    clear p1
    go_wp2_with (go_at_call 112;refine HP.out.mono ?_;rintro e w' ⟨rfl,rfl⟩)
    go_ret
    exact ⟨za3 HE.out.symm,hbw.out⟩
end Go.Proofs.YtponpgcpmlcdpaaGreatDoor
namespace Go.Proofs.YtponpgcpmlcdpaaGreatDoor
open Go.RowKit Go.Shelf
def pvs (x:Pm.Pl) (A:Option Addr) (n c:Nat) (A':Option Addr) (n' c':Nat):List Value :=
 [.int .i64 x.e,.int .i64 x.t,.int .i64 x.p,.int .i64 x.s,.int .i64 x.c,.int .i64 x.st,.int .i64 x.si,.int .i64 x.ra,.int .u64 x.up,.int .u64 x.su,.slice A n c,.slice A' n' c']
theorem zmk (x:Pm.Pl) (A:Option Addr) (n c:Nat) (A':Option Addr) (n' c':Nat):pv x A n c A' n' c' = .agg (pvs x A n c A' n' c').toArray:=rfl
structure PlAt (w:World) (B:Nat) (x:Pm.Pl) (A:Option Addr) (n c:Nat) (A':Option Addr) (n' c':Nat):Prop where
 ok:x.Ok
 r1:Rd w B A (i64s x.pen)
 l1:x.pen.length=n
 c1:n≤c
 m1:c≤maxLen
 r2:Rd w B A' (i64s x.ch)
 l2:x.ch.length=n'
 c2:n'≤c'
 m2:c'≤maxLen
theorem PlAt.below {w w':World} {B B':Nat} {x:Pm.Pl} {A:Option Addr} {n c:Nat} {A':Option Addr} {n' c':Nat} (h:PlAt w B x A n c A' n' c') (hb:Below B' w w') (hB:B≤B'):PlAt w' B x A n c A' n' c' :=
 ⟨h.ok,h.r1.below (hb.mono hB),h.l1,h.c1,h.m1,h.r2.below (hb.mono hB),h.l2,h.c2,h.m2⟩
theorem PlAt.more {w:World} {B B':Nat} {x:Pm.Pl} {A:Option Addr} {n c:Nat} {A':Option Addr} {n' c':Nat} (h:PlAt w B x A n c A' n' c') (hB:B≤B'):PlAt w B' x A n c A' n' c' :=
 ⟨h.ok,h.r1.more hB,h.l1,h.c1,h.m1,h.r2.more hB,h.l2,h.c2,h.m2⟩
def Fr (base:Nat) (A:Option Addr):Prop:=∀ad,A=some ad→base≤ad.block
theorem Fr.none {base:Nat}:Fr base none:=fun _ h=>by cases h
theorem Fr.mono {base base':Nat} {A:Option Addr} (h:Fr base A) (hb:base'≤base):Fr base' A:=fun ad e=>Nat.le_trans hb (h ad e)
theorem zji {w:World} {base:Nat} {e:TypeId} {A:Option Addr} {m c n:Nat} {xs:List Value} (h:w.ownsRow base e 1 (.slice A m c) n xs):Fr base A:=fun ad ha=>by
 subst ha
 rcases h.2 with ⟨h1,_⟩|⟨g,cap,cur,h1,hb,_⟩
 ·cases h1
 ·cases h1;exact hb
def Bx (w:World) (b:Nat) (x:Pm.Pl) (A:Option Addr) (n c:Nat) (A':Option Addr) (n' c':Nat):Prop:=w.rangeAt b 0 (pvs x A n c A' n' c')
section
variable {w w':World} {b:Nat} {x:Pm.Pl} {A:Option Addr} {n c:Nat} {A':Option Addr} {n' c':Nat}
theorem Bx.at (h:Bx w b x A n c A' n' c') (j:Nat) {v:Value} (hv:(pvs x A n c A' n' c')[j]? = some v):w.cell? ⟨b,j,none⟩=some v:=by
 have:=h j v hv
 rwa [Nat.zero_add] at this
theorem Bx.pen (h:Bx w b x A n c A' n' c'):w.cell? ⟨b,10,none⟩=some (.slice A n c):=h.at 10 rfl
theorem Bx.ch (h:Bx w b x A n c A' n' c'):w.cell? ⟨b,11,none⟩=some (.slice A' n' c'):=h.at 11 rfl
theorem Bx.below {B:Nat} (h:Bx w b x A n c A' n' c') (hb:Below B w w') (hB:b < B):Bx w' b x A n c A' n' c':=fun j v hv=>by
 rw [hb.cell (by exact hB)];exact h j v hv
theorem Bx.drewN (h:Bx w b x A n c A' n' c') (k:Nat):Bx (w.drewN k) b x A n c A' n' c':=h
theorem Bx.new (w:World) (x:Pm.Pl) (A:Option Addr) (n c:Nat) (A':Option Addr) (n' c':Nat) (t:TypeId):Bx (w.alloc (.cells (pvs x A n c A' n' c').toArray t)) w.heap.size x A n c A' n' c':=fun j v hv=>by
 have:=(Rd.new w (w.heap.size+1) (pvs x A n c A' n' c') t (0,0) (by omega)) j v hv
 obtain ⟨ad,e,_,hc⟩:=this
 cases e
 rw [Addr.add_mid] at hc
 exact hc
end
theorem za2:(Tryz.prog.info? 34).map (·.size)=some 12:=by kernel_rfl
theorem zbw {P : Program} {a : Act} {o : Oper} {w : World} (ty : TypeId) (x : Operand) (ho : o.op = .load ty x) (b : Nat) (hx : a.eval x = .pointer (some ⟨b, 0, none⟩)) (cs : List Value) (d : TypeDesc) (hr : w.rangeAt b 0 cs)
  (hu:P.underlying ty=some d) (hd:d.isRow=true) (hi:(P.info? ty).map (·.size)=some cs.length):(execOp a.eval o).run P w = .ok (.value (.agg cs.toArray)) w:=by
 unfold execOp
 simp only [ho,hx,Instr.loadAt,Instr.sureAddr,Sem.run_bind,Sem.run_pure,Result.andThen_ok,run_loadVar_mid w b 0 ty cs d hr hu hd hi]
set_option maxHeartbeats 4000000 in
theorem zl4 (x : Pm.Pl) (A : Option Addr) (n c : Nat) (A' : Option Addr) (n' c' : Nat) (B : Nat) (w : World) (hp : PlAt w B x A n c A' n' c') (hB : B ≤ w.heap.size) (ht : Tab w) :
  Calls Tryz.prog 89 #[pv x A n c A' n' c'] w fun e w'=>e = .returned (.bool x.right)∧Below w.heap.size w w':=by
 have HP:=Lib.hid hp
 have HT:=Lib.hid ht
 have hx1:=Lib.hid (Bx.new w x A n c A' n' c' 34)
 have hb1:Hid (Below w.heap.size w (w.alloc (.cells (pvs x A n c A' n' c').toArray 34))):=(Below.refl _ w).alloc (Nat.le_refl _) _
 clear hp ht
 rw [zmk]
 have HNU:=Lib.hid (fun W=>zdy x A n c A' n' c' W HP.out.ok)
 rw [zmk] at HNU
 have HX:=Lib.hid (fun (W:World) (h:Below (w.heap.size+1) (w.alloc (.cells (pvs x A n c A' n' c').toArray 34)) W)=>(hx1.out.below h (Nat.lt_succ_self _):Bx W w.heap.size x A n c A' n' c'))
 have HR:Hid (∀(W:World),Below (w.heap.size+1) (w.alloc (.cells (pvs x A n c A' n' c').toArray 34)) W→W.rangeAt w.heap.size 0 (pvs x A n c A' n' c')):=HX.out
 have hz1:(w.alloc (.cells (pvs x A n c A' n' c').toArray 34)).heap.size=w.heap.size+1:=World.size_alloc ..
 have hlen:(pvs x A n c A' n' c').length=12:=rfl
 generalize pvs x A n c A' n' c'=L at *
 clear hx1
 go_enter Tryz.func89,Tryz.ntmps89
 go_wp2_with fail
 refine zc6 (fun W=>Below (w.heap.size+1) (w.alloc (.cells L.toArray 34)) W) (by kernel_rfl) ?_
 have hC:Below (w.heap.size+1) (w.alloc (.cells L.toArray 34)) (w.alloc (.cells L.toArray 34)).drew:=(Below.refl _ _).drew
 refine zaf (i:=0) (v := ?v0_28) (a' := ?a0_28) rfl (by kernel_rfl) (by kernel_rfl) (by kernel_rfl) (fun _ _ _ h=>h) hC ?w0_28 ?y0_28 ?f0_28 ?r0_28
 case w0_28=>kernel_rfl
 case y0_28=>(intro W hW;exact by refine zbw 34 (.tmp 1) ?_ w.heap.size ?_ L _ (HR.out _ hW) Tryz.underlying34 rfl (by rw [hlen];exact za2)<;>rfl)
 case f0_28=>(go_simp;try with_reducible rfl)
 refine zaf (i:=2) (v := ?v2_29) (a' := ?a2_29) rfl (by kernel_rfl) (by kernel_rfl) (by kernel_rfl) (fun _ _ _ h=>h) hC ?w2_29 ?y2_29 ?f2_29 ?r2_29
 case w2_29=>kernel_rfl
 case y2_29=>(intro w hC;go_simp;try with_reducible rfl)
 case f2_29=>(go_simp;try with_reducible rfl)
 refine zaf (i:=4) (v := ?v4_30) (a' := ?a4_30) rfl (by kernel_rfl) (by kernel_rfl) (by kernel_rfl) (fun _ _ _ h=>h) hC ?w4_30 ?y4_30 ?f4_30 ?r4_30
 case w4_30=>kernel_rfl
 case y4_30=>(intro w hC;go_simp;try with_reducible rfl)
 case f4_30=>(go_simp;try with_reducible rfl)
 refine zaf (i:=3) (v := ?v3_31) (a' := ?a3_31) rfl (by kernel_rfl) (by kernel_rfl) (by kernel_rfl) (fun _ _ _ h=>h) hC ?w3_31 ?y3_31 ?f3_31 ?r3_31
 case w3_31=>kernel_rfl
 case y3_31=>(intro w hC;have h4:=(HX.out w hC).pen;go_simp;try with_reducible rfl)
 case f3_31=>(go_simp;try with_reducible rfl)
 refine zaf (i:=5) (v := ?v5_32) (a' := ?a5_32) rfl (by kernel_rfl) (by kernel_rfl) (by kernel_rfl) (fun _ _ _ h=>h) hC ?w5_32 ?y5_32 ?f5_32 ?r5_32
 case w5_32=>kernel_rfl
 case y5_32=>(intro w hC;have h4:=(HX.out w hC).ch;go_simp;try with_reducible rfl)
 case f5_32=>(go_simp;try with_reducible rfl)
 refine za5 (i:=1) rfl (by kernel_rfl) (by kernel_rfl) (fun K hK => ?_)
 go_simp
 refine (HNU.out _).mono ?_
 rintro e w2 ⟨rfl,hb2⟩
 have hC2:Below (w.heap.size+1) (w.alloc (.cells L.toArray 34)) w2:=hC.trans (hb2.mono (by simp))
 refine hK _ _ ⟨hC2,?_⟩
 refine za5 (i:=6) rfl (by kernel_rfl) (by kernel_rfl) (fun K hK => ?_)
 go_simp
 have hb3:=hb1.out.trans (hC2.mono (Nat.le_succ _))
 refine (zov x.nums A A' n n' c c' B x.pen x.ch w2 rfl (HP.out.r1.below (hb3.mono hB)) HP.out.l1 (Nat.le_trans HP.out.c1 HP.out.m1) (HP.out.r2.below (hb3.mono hB)) HP.out.l2 (Nat.le_trans HP.out.c2 HP.out.m2) (Nat.le_trans hB hb3.size) (HT.out.below hb3 (Nat.le_refl _))).mono ?_
 rintro e w4 ⟨rfl,hb4⟩
 have hC4:Below (w.heap.size+1) (w.alloc (.cells L.toArray 34)) w4:=hC2.trans (hb4.mono (by have:=hC2.size;rw [hz1] at this;exact this))
 refine hK _ _ ⟨hC4,?_⟩
 refine zaf (i:=7) (v := ?v7_33) (a' := ?a7_33) rfl (by kernel_rfl) (by kernel_rfl) (by kernel_rfl) (fun _ _ _ h=>h) hC4 ?w7_33 ?y7_33 ?f7_33 ?r7_33
 case w7_33=>kernel_rfl
 case y7_33=>(intro w hC;go_simp;try with_reducible rfl)
 case f7_33=>(go_simp;try with_reducible rfl)
 refine zbc (by kernel_rfl) ?_
 go_wp2
 go_ret
 exact ⟨rfl,hb1.out.trans (hC4.mono (Nat.le_succ _))⟩
theorem zdj {P : Program} {ops : Array Oper} {rest : List Oper} {op : Oper} {a : Act} {w : World} {Q : Exit → Act → World → Prop} (ty : TypeId) (x : Operand) (ho : op.op = .load ty x)
  (b o:Nat) (hx:a.eval x = .pointer (some ⟨b,o,none⟩)) (cs:List Value) (d:TypeDesc) (hc:w.rangeAt b o cs) (hu:P.underlying ty=some d) (hd:d.isRow=true) (hi:(P.info? ty).map (·.size)=some cs.length)
  (hn:Region.wanted op (yielded ops a.tmps)=true) (h:wpList P ops Q rest (a.put op.dst (.agg cs.toArray)) w):wpList P ops Q (op::rest) a w :=
 wpList_step fun K hK=>by
  simp only [hn,if_true]
  exact wp_load_mid ty x ho b o hx cs d hc hu hd hi (hK _ _ h)
end Go.Proofs.YtponpgcpmlcdpaaGreatDoor
namespace Go.Proofs.YtponpgcpmlcdpaaGreatDoor
open Go.RowKit Go.Shelf
theorem info_L:(Tryz.prog.info? 2).map (fun i=>(i.zero,i.size,i.bytes))=some (some (.int .i64 0),1,8):=by kernel_rfl
set_option maxHeartbeats 1000000 in
theorem zrs (A : Option Addr) (n cap B : Nat) (xs : List Int) (w : World) (hx : Rd w B A (i64s xs)) (hn : xs.length = n) (hB : B ≤ w.heap.size) (hm : n ≤ 64) :
  Calls Tryz.prog 131 #[.slice A n cap] w fun e w'=>∃v,e = .returned v∧w'.ownsRow w.heap.size 2 1 v xs.length (i64s xs)∧Below w.heap.size w w':=by
 obtain ⟨i0,hi,hz0,hz1,hz2⟩:=info_parts info_L
 have HX:=Lib.hid hx
 have HN:=Lib.hid hn
 clear hx hn
 go_enter Tryz.func131,Tryz.ntmps131
 go_wp2_with (at_make;go_must (refine wpList_make_full _ rfl _ _ 30 rfl w.heap.size 2 i0 (.int .i64 0) 1 Tryz.underlying30 hi hz0 hz1 .i64 .i64 (n:Int) (n:Int) n rfl rfl rfl rfl (by rw [hz2];omega) (by unfold maxLen;omega) (Nat.le_refl _) ?_);intro w1 hown hgrow)
 rw [zkg] at hown
 have hB1:=(Below.refl w.heap.size w).grown hgrow (Nat.le_refl _) (by simp)
 have HO1:=Lib.hid hown
 clear hown hgrow
 go_loopw [11] (fun ix wr => ∃ (j : Nat), ix = .int .i64 (j : Int) ∧ j ≤ n ∧
   wr.ownsRow w.heap.size 2 1 (.slice (some ⟨w.heap.size,0,none⟩) n n) n (i64s (xs.take j++List.replicate (n - j) 0))∧Below w.heap.size w wr)
  (fun ix _=>n - (intOf ix).toNat)
 case atStart=>exact ⟨0,rfl,by omega,HO1.out,hB1⟩
 case round =>
  obtain ⟨j,rfl,hj,hown,hBw⟩:=hrel
  by_cases hlt:j < n
  ·obtain ⟨x,hxk⟩ : ∃x,xs[j]? = some x:=⟨xs[j]'(by have:=HN.out;omega),List.getElem?_eq_getElem _⟩
   obtain ⟨ad,rfl,_,hc⟩:=(HX.out.below (hBw.mono hB)).getU hxk
   obtain ⟨d,hd⟩ : ∃d,n - j=d+1:=⟨n - j - 1,by omega⟩
   have htl:(xs.take j).length=j:=by rw [List.length_take];have:=HN.out;omega
   rw [hd] at hown
   have hcl:wr.cell? ⟨w.heap.size,j,none⟩=some (.int .i64 0):=by
    rw [hown.cellAt j (by omega),List.getElem?_map]
    have:=Wm.zm5 (xs.take j) d
    rw [htl] at this
    rw [this];rfl
   have hfz:=hown.frozenAt j
   have hst:=hown.stored j (.int .i64 x)
   have hset:=Wm.zmf (xs.take j) d x
   rw [htl] at hset
   rw [zkj,hset] at hst
   have htk:xs.take j++[x]=xs.take (j+1):=by rw [List.take_add_one,hxk];rfl
   rw [htk] at hst
   have HST:=Lib.hid hst.1
   have HBS:=Lib.hid (hBw.setCell (p:=⟨w.heap.size,j,none⟩) (Nat.le_refl _) (.int .i64 x))
   have HDK:Hid (n - (j+1)=d):=by show _=_;omega
   clear hst hown hd hBw hset htk htl hxk
   go_wp2
   go_roundw
   case rel=>exact ⟨j+1,by go_num,by omega,by rw [HDK.out];exact HST.out,HBS.out⟩
   case measure=>simp [intOf];omega
  ·obtain rfl:j=n:=by omega
   have HO:Hid (wr.ownsRow w.heap.size 2 1 (.slice (some ⟨w.heap.size,0,none⟩) j j) xs.length (i64s xs)):=by
    have h:=hown
    rw [Nat.sub_self,List.replicate_zero,List.append_nil,List.take_of_length_le (by have:=HN.out;omega)] at h
    show World.ownsRow _ _ _ _ _ _ _
    rw [HN.out]
    exact h
   clear hown
   go_wp2
   go_ret
   exact ⟨_,rfl,HO.out,hBw⟩
theorem info_I:(Tryz.prog.info? 3).map (fun i=>(i.zero,i.size,i.bytes))=some (some (.int .i64 0),1,8):=by kernel_rfl
set_option maxHeartbeats 1000000 in
theorem zrt (A : Option Addr) (n cap B : Nat) (xs : List Int) (w : World) (hx : Rd w B A (i64s xs)) (hn : xs.length = n) (hB : B ≤ w.heap.size) (hm : n ≤ 64) :
  Calls Tryz.prog 109 #[.slice A n cap] w fun e w'=>∃v,e = .returned v∧w'.ownsRow w.heap.size 3 1 v xs.length (i64s xs)∧Below w.heap.size w w':=by
 obtain ⟨i0,hi,hz0,hz1,hz2⟩:=info_parts info_I
 have HX:=Lib.hid hx
 have HN:=Lib.hid hn
 clear hx hn
 go_enter Tryz.func109,Tryz.ntmps109
 go_wp2_with (at_make;go_must (refine wpList_make_full _ rfl _ _ 22 rfl w.heap.size 3 i0 (.int .i64 0) 1 Tryz.underlying22 hi hz0 hz1 .i64 .i64 (n:Int) (n:Int) n rfl rfl rfl rfl (by rw [hz2];omega) (by unfold maxLen;omega) (Nat.le_refl _) ?_);intro w1 hown hgrow)
 rw [zkg] at hown
 have hB1:=(Below.refl w.heap.size w).grown hgrow (Nat.le_refl _) (by simp)
 have HO1:=Lib.hid hown
 clear hown hgrow
 go_loopw [11] (fun ix wr => ∃ (j : Nat), ix = .int .i64 (j : Int) ∧ j ≤ n ∧
   wr.ownsRow w.heap.size 3 1 (.slice (some ⟨w.heap.size,0,none⟩) n n) n (i64s (xs.take j++List.replicate (n - j) 0))∧Below w.heap.size w wr)
  (fun ix _=>n - (intOf ix).toNat)
 case atStart=>exact ⟨0,rfl,by omega,HO1.out,hB1⟩
 case round =>
  obtain ⟨j,rfl,hj,hown,hBw⟩:=hrel
  by_cases hlt:j < n
  ·obtain ⟨x,hxk⟩ : ∃x,xs[j]? = some x:=⟨xs[j]'(by have:=HN.out;omega),List.getElem?_eq_getElem _⟩
   obtain ⟨ad,rfl,_,hc⟩:=(HX.out.below (hBw.mono hB)).getU hxk
   obtain ⟨d,hd⟩ : ∃d,n - j=d+1:=⟨n - j - 1,by omega⟩
   have htl:(xs.take j).length=j:=by rw [List.length_take];have:=HN.out;omega
   rw [hd] at hown
   have hcl:wr.cell? ⟨w.heap.size,j,none⟩=some (.int .i64 0):=by
    rw [hown.cellAt j (by omega),List.getElem?_map]
    have:=Wm.zm5 (xs.take j) d
    rw [htl] at this
    rw [this];rfl
   have hfz:=hown.frozenAt j
   have hst:=hown.stored j (.int .i64 x)
   have hset:=Wm.zmf (xs.take j) d x
   rw [htl] at hset
   rw [zkj,hset] at hst
   have htk:xs.take j++[x]=xs.take (j+1):=by rw [List.take_add_one,hxk];rfl
   rw [htk] at hst
   have HST:=Lib.hid hst.1
   have HBS:=Lib.hid (hBw.setCell (p:=⟨w.heap.size,j,none⟩) (Nat.le_refl _) (.int .i64 x))
   have HDK:Hid (n - (j+1)=d):=by show _=_;omega
   clear hst hown hd hBw hset htk htl hxk
   go_wp2
   go_roundw
   case rel=>exact ⟨j+1,by go_num,by omega,by rw [HDK.out];exact HST.out,HBS.out⟩
   case measure=>simp [intOf];omega
  ·obtain rfl:j=n:=by omega
   have HO:Hid (wr.ownsRow w.heap.size 3 1 (.slice (some ⟨w.heap.size,0,none⟩) j j) xs.length (i64s xs)):=by
    have h:=hown
    rw [Nat.sub_self,List.replicate_zero,List.append_nil,List.take_of_length_le (by have:=HN.out;omega)] at h
    show World.ownsRow _ _ _ _ _ _ _
    rw [HN.out]
    exact h
   clear hown
   go_wp2
   go_ret
   exact ⟨_,rfl,HO.out,hBw⟩
namespace Pm
end Pm
end Go.Proofs.YtponpgcpmlcdpaaGreatDoor
namespace Go.Proofs.YtponpgcpmlcdpaaGreatDoor
open Go.RowKit Go.Shelf
theorem zbm {P : Program} {ops : Array Oper} {rest : List Oper} {op : Oper} {a : Act} {w : World} {Q : Exit → Act → World → Prop} (hgd : op.guard = none) (ty : TypeId) (x y : Operand) (ho : op.op = .store ty x y)
  (c c':Array Value) (hx:a.eval x = .pointer (some ⟨w.heap.size,0,none⟩)) (hy:a.eval y = .agg c') (hi:(P.info? ty).map (·.size)=some c'.size) (hs:c.size=c'.size) (h1:c'.all (·.oneCell')=true)
  (h:wpList P ops Q rest (a.put op.dst undef) (w.alloc (.cells c' ty))):wpList P ops Q (op::rest) a (w.alloc (.cells c ty)) :=
 wpList_plain hgd fun _ hK=>by
  unfold Oper.wp execOp
  simp only [ho,hx,hy,Sem.run_bind,run_storeAt_new (P:=P) w ty c c' hi hs h1,Result.andThen_ok,Sem.run_pure]
  exact hK _ _ h
theorem zdk (xs:List Int):(i64s xs).toArray.all (·.oneCell')=true:=all_oneCell_toArray (zbs .i64 xs)
namespace Pm
def pre (a b c:List Int):Nat→List Int
 |0=>[]
 |1=>Wm.zat a a.length
 |2=>Wm.zat a a.length++Wm.zat b b.length
 |_=>(Wm.zat a a.length++Wm.zat b b.length)++Wm.zat c c.length
theorem zqh (a b c:List Int):pre a b c 3=U3 a b c:=by
 show (Wm.zat a a.length++Wm.zat b b.length)++Wm.zat c c.length=_
 unfold U3
 rw [List.append_assoc]
theorem zf4 {a b c:List Int} (ha:a.length≤64) (hb:b.length≤64) (hc:c.length≤64) (k:Nat):(pre a b c k).length≤2000:=by
 have h1:=Wm.zcq a a.length
 have h2:=Wm.zcq b b.length
 have h3:=Wm.zcq c c.length
 match k with
 |0=>exact Nat.zero_le _
 |1=>show (Wm.zat a a.length).length≤2000;omega
 |2=>show (Wm.zat a a.length++Wm.zat b b.length).length≤2000;rw [List.length_append];omega
 |k+3=>show ((Wm.zat a a.length++Wm.zat b b.length)++Wm.zat c c.length).length≤2000;rw [List.length_append,List.length_append];omega
end Pm
structure Three (w:World) (b B:Nat) (a0 a1 a2:List Int):Prop where
 s:∀k,k < 3→∃(A:Option Addr) (n c:Nat) (xs:List Int),w.cell? ⟨b,k,none⟩=some (.slice A n c)∧Rd w B A (i64s xs)∧xs.length=n∧n≤64∧Wm.Fits xs∧Pm.pre a0 a1 a2 (k+1)=Pm.pre a0 a1 a2 k++Wm.zat xs xs.length
theorem Three.below {w w':World} {b B B':Nat} {a0 a1 a2:List Int} (h:Three w b B a0 a1 a2) (hb:Below B' w w') (h1:b < B') (h2:B≤B'):Three w' b B a0 a1 a2:=⟨fun k hk=>by
 obtain ⟨A,n,c,xs,hc,hr,h4⟩:=h.s k hk
 exact ⟨A,n,c,xs,by rw [hb.cell (by exact h1)];exact hc,hr.below (hb.mono h2),h4⟩⟩
set_option maxHeartbeats 4000000 in
theorem Put_any (x : Pm.Pl) (A : Option Addr) (n c : Nat) (A' : Option Addr) (n' c' : Nat) (B : Nat) (w : World) (hp : PlAt w B x A n c A' n' c') (hB : B ≤ w.heap.size) (ht : Tab w) :
  Calls Tryz.prog 126 #[pv x A n c A' n' c'] w fun e w'=>∃v,e = .returned (.tuple #[v,.int .i64 x.put.2])∧w'.ownsRow w.heap.size 5 1 v x.put.1.length (u8s x.put.1)∧Below w.heap.size w w':=by
 have HP:=Lib.hid hp
 have HT:=Lib.hid ht
 have hx1:=Lib.hid (Bx.new w x A n c A' n' c' 34)
 have hb1:Hid (Below w.heap.size w (w.alloc (.cells (pvs x A n c A' n' c').toArray 34))):=(Below.refl _ w).alloc (Nat.le_refl _) _
 have HNU:=Lib.hid (fun W=>zdy x A n c A' n' c' W HP.out.ok)
 have HRI:=Lib.hid (fun W (h:PlAt W B x A n c A' n' c') h2 (h3:Tab W)=>zl4 x A n c A' n' c' B W h h2 h3)
 clear hp ht
 rw [zmk] at HNU HRI ⊢
 have HX:=Lib.hid (fun (W:World) (h:Below (w.heap.size+1) (w.alloc (.cells (pvs x A n c A' n' c').toArray 34)) W)=>(hx1.out.below h (Nat.lt_succ_self _):Bx W w.heap.size x A n c A' n' c'))
 have HR:Hid (∀(W:World),Below (w.heap.size+1) (w.alloc (.cells (pvs x A n c A' n' c').toArray 34)) W→W.rangeAt w.heap.size 0 (pvs x A n c A' n' c')):=HX.out
 have hz1:(w.alloc (.cells (pvs x A n c A' n' c').toArray 34)).heap.size=w.heap.size+1:=World.size_alloc ..
 have hlen:(Tryz.prog.info? 34).map (·.size)=some (pvs x A n c A' n' c').length:=za2
 generalize pvs x A n c A' n' c'=L at *
 clear hx1
 have HI:=Lib.hid hlen
 clear hlen
 have hC0:=Lib.hid (Below.refl (w.heap.size+1) (w.alloc (.cells L.toArray 34)))
 go_enter Tryz.func126,Tryz.ntmps126
 go_wp2_with (first|(refine wpList_load_mid rfl 34 _ rfl w.heap.size 0 rfl L _ (HR.out _ hC0.out) Tryz.underlying34 rfl HI.out ?_)|(go_at_call 89;fail))
 refine (HRI.out _ (HP.out.below hb1.out hB) (Nat.le_trans hB hb1.out.size) (HT.out.below hb1.out (Nat.le_refl _))).mono ?_
 rintro e w2 ⟨rfl,hb2'⟩
 have hC2:Hid (Below (w.heap.size+1) (w.alloc (.cells L.toArray 34)) w2):=hb2'.mono (by rw [hz1];exact Nat.le_refl _)
 clear hb2'
 cases hr:x.right with
 | false =>
   have HE:=Lib.hid (Pm.Pl.zjf hr)
   clear hr
   go_wp2
   go_ret2
   rw [HE.out]
   exact ⟨_,rfl,zcc,hb1.out.trans (hC2.out.mono (Nat.le_succ _))⟩
 | true =>
   have HE:=Lib.hid (Pm.Pl.zfy hr)
   obtain ⟨hl1,hl2,-⟩:=Pm.zeo hr
   have hr':=Lib.hid hr
   clear hr
   go_wp2_with (first|(refine wpList_load_mid rfl 34 _ rfl w.heap.size 0 rfl L _ (HR.out _ hC2.out) Tryz.underlying34 rfl HI.out ?_)|(go_at_call 99;fail))
   refine (HNU.out _).mono ?_
   rintro e w3 ⟨rfl,hb3'⟩
   have hz2:=hC2.out.size
   rw [hz1] at hz2
   have hC3:Hid (Below (w.heap.size+1) (w.alloc (.cells L.toArray 34)) w3):=hC2.out.trans (hb3'.mono hz2)
   have hz3:=Nat.le_trans hz2 hb3'.size
   clear hb3'
   go_wp2_with (first|(refine zbm rfl 154 _ _ rfl _ (i64s x.nums).toArray rfl rfl zin rfl (zdk _) ?_))
   have hz4:(w3.alloc (.cells (i64s x.nums).toArray 154)).heap.size=w3.heap.size+1:=World.size_alloc ..
   have hC4:Hid (Below (w.heap.size+1) (w.alloc (.cells L.toArray 34)) (w3.alloc (.cells (i64s x.nums).toArray 154))):=hC3.out.alloc hz3 _
   have HG:=Lib.hid (fun (W:World) (h:Below (w3.heap.size+1) (w3.alloc (.cells (i64s x.nums).toArray 154)) W)=>hC4.out.trans (h.mono (Nat.le_succ_of_le hz3)))
   have hrn:Hid (Rd (w3.alloc (.cells (i64s x.nums).toArray 154)) (w3.heap.size+1) (some ⟨w3.heap.size,0,none⟩) (i64s x.nums)):=Rd.new w3 (w3.heap.size+1) (i64s x.nums) 154 (0,0) (by omega)
   have hnl:Hid (x.nums.length=10):=rfl
   have hnf:=Lib.hid (Pm.Pl.ze1 HP.out.ok)
   generalize x.nums=ns at *
   refine zc6 (fun W=>Below (w3.heap.size+1) (w3.alloc (.cells (i64s ns).toArray 154)) W) (by kernel_rfl) ?_
   have hC:Below (w3.heap.size+1) (w3.alloc (.cells (i64s ns).toArray 154)) (w3.alloc (.cells (i64s ns).toArray 154)).drew:=(Below.refl _ _).drew
   refine zaf (i:=0) (v := ?v0_34) (a' := ?a0_34) rfl (by kernel_rfl) (by kernel_rfl) (by kernel_rfl) (fun _ _ _ h=>h) hC ?w0_34 ?y0_34 ?f0_34 ?r0_34
   case w0_34=>kernel_rfl
   case y0_34=>(intro w hC;go_simp;try with_reducible rfl)
   case f0_34=>(go_simp;try with_reducible rfl)
   refine zaf (i:=1) (v := ?v1_35) (a' := ?a1_35) rfl (by kernel_rfl) (by kernel_rfl) (by kernel_rfl) (fun _ _ _ h=>h) hC ?w1_35 ?y1_35 ?f1_35 ?r1_35
   case w1_35=>kernel_rfl
   case y1_35=>(intro w hC;go_simp;try with_reducible rfl)
   case f1_35=>(go_simp;try with_reducible rfl)
   refine zaf (i:=4) (v := ?v4_36) (a' := ?a4_36) rfl (by kernel_rfl) (by kernel_rfl) (by kernel_rfl) (fun _ _ _ h=>h) hC ?w4_36 ?y4_36 ?f4_36 ?r4_36
   case w4_36=>kernel_rfl
   case y4_36=>(intro w hC;go_simp;try with_reducible rfl)
   case f4_36=>(go_simp;try with_reducible rfl)
   refine zaf (i:=8) (v := ?v8_37) (a' := ?a8_37) rfl (by kernel_rfl) (by kernel_rfl) (by kernel_rfl) (fun _ _ _ h=>h) hC ?w8_37 ?y8_37 ?f8_37 ?r8_37
   case w8_37=>kernel_rfl
   case y8_37=>(intro w hC;go_simp;try with_reducible rfl)
   case f8_37=>(go_simp;try with_reducible rfl)
   refine zaf (i:=2) (v := ?v2_38) (a' := ?a2_38) rfl (by kernel_rfl) (by kernel_rfl) (by kernel_rfl) (fun _ _ _ h=>h) hC ?w2_38 ?y2_38 ?f2_38 ?r2_38
   case w2_38=>kernel_rfl
   case y2_38=>(intro w hC;have h4:=(HX.out w (HG.out w hC)).pen;go_simp;try with_reducible rfl)
   case f2_38=>(go_simp;try with_reducible rfl)
   refine zaf (i:=5) (v := ?v5_39) (a' := ?a5_39) rfl (by kernel_rfl) (by kernel_rfl) (by kernel_rfl) (fun _ _ _ h=>h) hC ?w5_39 ?y5_39 ?f5_39 ?r5_39
   case w5_39=>kernel_rfl
   case y5_39=>(intro w hC;have h4:=(HX.out w (HG.out w hC)).ch;go_simp;try with_reducible rfl)
   case f5_39=>(go_simp;try with_reducible rfl)
   refine za5 (i:=3) rfl (by kernel_rfl) (by kernel_rfl) (fun K hK => ?_)
   go_simp
   have hbw4:=hb1.out.trans ((HG.out _ hC).mono (Nat.le_succ _))
   refine (zrs A n c B x.pen _ (HP.out.r1.below (hbw4.mono hB)) HP.out.l1 (Nat.le_trans hB hbw4.size) (by have:=HP.out.l1;omega)).mono ?_
   rintro e w5 ⟨v5,rfl,hown5,hb5⟩
   obtain ⟨A5,c5,rfl,hcp5,hcm5,hrd5⟩:=za4 hown5
   have hC5:Below (w3.heap.size+1) (w3.alloc (.cells (i64s ns).toArray 154)) w5:=hC.trans (hb5.mono (by simp))
   have hrd5':=Lib.hid hrd5
   clear hrd5 hown5 hb5
   refine hK _ _ ⟨hC5,?_⟩
   clear hK K
   refine za5 (i:=6) rfl (by kernel_rfl) (by kernel_rfl) (fun K hK => ?_)
   go_simp
   have hz6:(w5.alloc (.cells #[.slice (some ⟨w3.heap.size,0,none⟩) 10 10,.slice A5 x.pen.length c5,.slice A' n' c'] 30)).heap.size=w5.heap.size+1:=World.size_alloc ..
   have hz5:=hC5.size
   rw [hz4] at hz5
   have hC6:Below (w3.heap.size+1) (w3.alloc (.cells (i64s ns).toArray 154)) (w5.alloc (.cells #[.slice (some ⟨w3.heap.size,0,none⟩) 10 10,.slice A5 x.pen.length c5,.slice A' n' c'] 30)):=hC5.alloc hz5 _
   have hT3:Hid (Three (w5.alloc (.cells #[.slice (some ⟨w3.heap.size,0,none⟩) 10 10,.slice A5 x.pen.length c5,.slice A' n' c'] 30)) w5.heap.size (w5.heap.size+1) ns x.pen x.ch):=by
    have hcell : ∀ k v, [Value.slice (some ⟨w3.heap.size, 0, none⟩) 10 10, .slice A5 x.pen.length c5, .slice A' n' c'][k]? = some v →
      (w5.alloc (.cells #[.slice (some ⟨w3.heap.size,0,none⟩) 10 10,.slice A5 x.pen.length c5,.slice A' n' c'] 30)).cell? ⟨w5.heap.size,k,none⟩=some v:=fun k v hv=>by
     obtain ⟨ad,e,_,hc⟩:=(Rd.new w5 (w5.heap.size+1) [Value.slice (some ⟨w3.heap.size,0,none⟩) 10 10,.slice A5 x.pen.length c5,.slice A' n' c'] 30 (0,0) (by omega)) k v hv
     cases e
     rw [Addr.add_mid,Nat.zero_add] at hc
     exact hc
    have hb6:Below w5.heap.size w5 (w5.alloc (.cells #[.slice (some ⟨w3.heap.size,0,none⟩) 10 10,.slice A5 x.pen.length c5,.slice A' n' c'] 30)):=(Below.refl _ _).alloc (Nat.le_refl _) _
    have hbw6:=hb1.out.trans ((HG.out _ hC6).mono (Nat.le_succ _))
    refine ⟨fun k hk => ?_⟩
    match k,hk with
    |0,_=>exact ⟨_,10,10,ns,hcell 0 _ rfl,(hrn.out.below hC6).more (by omega),hnl.out,by omega,hnf.out,rfl⟩
    |1,_=>exact ⟨A5,x.pen.length,c5,x.pen,hcell 1 _ rfl,(hrd5'.out.below hb6).more (Nat.le_succ _),rfl,by omega,HP.out.ok.pen,rfl⟩
    |2,_=>exact ⟨A',n',c',x.ch,hcell 2 _ rfl,(HP.out.r2.below (hbw6.mono hB)).more (by omega),HP.out.l2,by have:=HP.out.l2;omega,HP.out.ok.ch,rfl⟩
   have hbw6:=Lib.hid (hb1.out.trans ((HG.out _ hC6).mono (Nat.le_succ _)))
   have hwz:w.heap.size≤w5.heap.size:=by omega
   refine hK _ _ ⟨hC6,?_⟩
   clear hK K
   refine zaf (i:=7) (v := ?v7_40) (a' := ?a7_40) rfl (by kernel_rfl) (by kernel_rfl) (by kernel_rfl) (fun _ _ _ h=>h) hC6 ?w7_40 ?y7_40 ?f7_40 ?r7_40
   case w7_40=>kernel_rfl
   case y7_40=>(intro w hC;go_simp;try with_reducible rfl)
   case f7_40=>(go_simp;try with_reducible rfl)
   refine zbc (by kernel_rfl) ?_
   generalize (w5.alloc (.cells #[.slice (some ⟨w3.heap.size,0,none⟩) 10 10,.slice A5 x.pen.length c5,.slice A' n' c'] 30))=w6 at *
   obtain ⟨i0,hi,hz0,hzz1,hzz2⟩:=info_parts zci
   have hpl:=Lib.hid (Pm.zf4 (a:=ns) (b:=x.pen) (c:=x.ch) (by rw [hnl.out];omega) (by omega) (by omega))
   have HE3:Hid (x.put=(Pm.pre ns x.pen x.ch 3,0)):=by rw [Pm.zqh];exact HE.out
   have h6:w5.heap.size+1≤w6.heap.size:=by omega
   have h6w:w.heap.size≤w6.heap.size:=by omega
   clear hz6 hz4 hz1 hz5 hz3 hz2
   clear HE hC hC5 hC6 hrd5' hrn hnf hnl hC4 HG hC3 hC2 hC0 HX HR HI HNU HRI hb1 hr' hbw4
   go_wp2
   go_loopw [5,23] (fun out ix wr=>∃k:Nat,ix = .int .i64 (k:Int)∧k≤3∧wr.ownsRow w6.heap.size 5 1 out (Pm.pre ns x.pen x.ch k).length (u8s (Pm.pre ns x.pen x.ch k))∧Below w6.heap.size w6 wr)
    (fun _ ix _=>3 - (intOf ix).toNat)
   case atStart=>exact ⟨0,rfl,by omega,zcc,Below.refl _ _⟩
   case round =>
    obtain ⟨k,rfl,hk,hown,hBl⟩:=hrel
    by_cases hlt:k < 3
    ·have hT:=hT3.out.below hBl (by omega) (by omega)
     obtain ⟨Ak,nk,ck,xs,hcl,hrd,hxl,hx64,hxf,hpre⟩:=hT.s k hlt
     have HPI:=Lib.hid (zi0 Ak nk ck _ xs wr hrd hxl hxf (by have:=hBl.size;omega))
     rw [Wm.zge (by omega)] at HPI
     have HPR:=Lib.hid hpre
     clear hxl hxf
     have hpk:=hpl.out k
     have hpk1:=hpl.out (k+1)
     rw [hpre,List.length_append] at hpk1
     clear hrd hpre
     go_wp2_with (go_at_call 125;fail)
     refine HPI.out.mono ?_
     rintro e w7 ⟨v7,rfl,hown7,hb7⟩
     obtain ⟨A7,c7,rfl,hcp7,hcm7,hrd7⟩:=za4 hown7
     clear HPI hown7
     have hBl7:=hBl.trans (hb7.mono hBl.size)
     have hown':=own_below hown hb7 (Nat.le_refl _)
     clear hown hBl hb7
     go_wp2_with (at_builtin;go_must (refine zdd rfl _ _ 35 rfl w6.heap.size 5 i0 (.int .u8 0) 1 Tryz.underlying35 hi hz0 hzz1 hzz2 rfl _ _ _ rfl hown' w7.heap.size A7 _ c7 (u8s (Wm.zat xs xs.length)) rfl (by rw [List.length_map]) hrd7 (zbs _ _) (by unfold maxLen;omega) (by omega) hBl7.size ?_);intro v8 w8 hown8 hgrow8 hone8)
     have hB8:=below_app hBl7 hown' hgrow8 hBl7.size
     have HO:Hid (w8.ownsRow w6.heap.size 5 1 v8 (Pm.pre ns x.pen x.ch (k+1)).length (u8s (Pm.pre ns x.pen x.ch (k+1)))):=by
      show World.ownsRow _ _ _ _ _ _ _
      rw [HPR.out,List.length_append]
      simpa [u8s] using hown8
     clear hown' hown8 hgrow8 hone8
     go_roundw
     case rel=>exact ⟨k+1,by go_num,by omega,HO.out,hB8⟩
     case measure=>simp [intOf];omega
    ·obtain rfl:k=3:=by omega
     go_wp2
     go_ret2
     rw [HE3.out]
     exact ⟨_,rfl,zb3 hown (by omega),hbw6.out.trans (hBl.mono (by omega))⟩
end Go.Proofs.YtponpgcpmlcdpaaGreatDoor
