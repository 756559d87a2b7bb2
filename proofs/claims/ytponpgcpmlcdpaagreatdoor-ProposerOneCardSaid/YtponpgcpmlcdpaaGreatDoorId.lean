import Derived.Test.YtponpgcpmlcdpaaGreatDoorGa
import Derived.Lib.TrailingZeros
import Derived.Laws.Bits64b
import Derived.Test.YtponpgcpmlcdpaaGreatDoorKI
import Derived.RangeFuncBox
import Derived.RangeFuncLeaves
import Derived.Shelf.Abstract
import Derived.OwnWalkIn
import Derived.TacticsInMore
import Derived.LoopNIn
import Derived.LoopIn
import Derived.Maps.AppendAt
import Derived.Sort.QuietIn
import Derived.Deep.CutBlock
import Derived.Deep.DeepCutAuto
import Derived.Test.YtponpgcpmlcdpaaGreatDoorHa
set_option maxRecDepth 100000
namespace Go.Proofs.YtponpgcpmlcdpaaGreatDoor
open Go.RowKit Go.Shelf Km Kx Kc
namespace Gm
def zbv (lo hi:Int) (zs:List Int):Bool:=zs.all fun m=>decide (lo≤m)&&decide (m≤hi)
theorem zgi {lo hi:Int} {zs:List Int}:zbv lo hi zs=true↔∀m∈zs,lo≤m∧m≤hi:=by
 unfold zbv
 rw [List.all_eq_true]
 constructor
 ·intro h m hm
  have:=h m hm
  rw [Bool.and_eq_true] at this
  exact ⟨of_decide_eq_true this.1,of_decide_eq_true this.2⟩
 ·intro h m hm
  rw [Bool.and_eq_true]
  exact ⟨decide_eq_true (h m hm).1,decide_eq_true (h m hm).2⟩
theorem zhr {lo hi:Int} {zs:List Int} {t:Int} (ht:t∈zs) (h:¬ (lo≤t∧t≤hi)):zbv lo hi zs=false:=by
 cases hq:zbv lo hi zs with
 |false=>rfl
 |true=>exact absurd (zgi.1 hq t ht) h
theorem zjr {lo hi:Int} {zs:List Int} {k:Nat} {t:Int} (h:zbv lo hi (zs.take k)=true) (hk:zs[k]? = some t) (ht:lo≤t∧t≤hi):zbv lo hi (zs.take (k+1))=true:=by
 rw [zgi] at h ⊢
 intro m hm
 rw [List.take_add_one,hk] at hm
 rcases List.mem_append.1 hm with hm|hm
 ·exact h m hm
 ·simp at hm;subst hm;exact ht
end Gm
theorem betI_any (lo hi : Int) (A : Option Addr) (n cap B : Nat) (l : List Int) (w : World) (hr : Rd w B A (Kc.i64s l)) (hn : l.length = n) (hm : n ≤ 8388607) :
  Calls Tryz.prog 75 #[.int .i64 lo,.int .i64 hi,.slice A n cap] w fun e w'=>e = .returned (.bool (Gm.zbv lo hi l))∧Below w.heap.size w w':=by
 have HB:=Lib.hid (Bxs.start w)
 have HR:=Lib.hid hr
 have HN:=Lib.hid hn
 clear hr hn
 go_enter Tryz.func75,Tryz.ntmps75
 go_wp2
 go_loopg [11] n (fun gh ix wr=>∃k:Nat,gh+k=n∧ix = .int .i64 (k:Int)∧Hid (Gm.zbv lo hi (l.take k)=true)∧Hid (Bxs w wr []))
 case atStart=>exact ⟨0,by omega,rfl,Lib.hid rfl,HB⟩
 case round =>
  clear HB
  obtain ⟨k,hk,rfl,HT,HB⟩:=hrel
  by_cases hlt:k < n
  ·obtain ⟨t,ht⟩ : ∃t,l[k]? = some t:=⟨l[k]'(by rw [HN.out];exact hlt),List.getElem?_eq_getElem _⟩
   obtain ⟨ad,rfl,-,hc⟩:=HR.out k (.int .i64 t) (by unfold Kc.i64s;rw [List.getElem?_map,ht];rfl)
   have HC:=Lib.hid hc
   have d3:(k:Int) < (n:Int):=by omega
   by_cases h0:t < lo
   ·have HE:=Lib.hid (Gm.zhr (lo:=lo) (hi:=hi) (List.mem_of_getElem? ht) (by omega))
    have d0:decide (t < lo)=true:=decide_eq_true h0
    clear hc ht HT
    go_wp2_with (first|((with_reducible refine zah HB ?_);clear HB;intro w_ HB)|((with_reducible refine zae ?_);(first|refine boxa HB rfl ?_|refine boxt HB rfl rfl ?_|refine box1 HB rfl rfl ?_);clear HB;intro b_ w_ HB;refine Kx.fr ?_)|((with_reducible refine zaa ?_);(first|refine ala HB ?_|refine al1 HB ?_);clear HB;intro b_ w_ HB;refine Kx.fr ?_)|((with_reducible refine zab ?_);first|refine Kx.l1 HB rfl rfl ?_|refine Kx.la HB rfl ?_|refine Kx.lo HB rfl HC.out ?_)|((with_reducible refine zac ?_);first|refine l1g HB rfl rfl rfl ?_|refine Kx.lag HB rfl rfl ?_|refine Kx.log HB rfl HC.out rfl ?_)|((with_reducible refine zad ?_);(first|refine stwa HB rfl rfl ?_|refine sta HB rfl rfl ?_|refine Kx.stc HB rfl rfl ?_|refine Kx.stt HB rfl rfl rfl ?_|refine Kx.st1 HB rfl rfl rfl ?_);clear HB;intro w_ HB))
    go_ret
    exact ⟨by rw [HE.out];rfl,HB.out.below⟩
   ·have d0:decide (t < lo)=false:=decide_eq_false h0
    by_cases h1:hi < t
    ·have HE:=Lib.hid (Gm.zhr (lo:=lo) (hi:=hi) (List.mem_of_getElem? ht) (by omega))
     have d1:decide (hi < t)=true:=decide_eq_true h1
     clear hc ht HT
     go_wp2_with (first|((with_reducible refine zah HB ?_);clear HB;intro w_ HB)|((with_reducible refine zae ?_);(first|refine boxa HB rfl ?_|refine boxt HB rfl rfl ?_|refine box1 HB rfl rfl ?_);clear HB;intro b_ w_ HB;refine Kx.fr ?_)|((with_reducible refine zaa ?_);(first|refine ala HB ?_|refine al1 HB ?_);clear HB;intro b_ w_ HB;refine Kx.fr ?_)|((with_reducible refine zab ?_);first|refine Kx.l1 HB rfl rfl ?_|refine Kx.la HB rfl ?_|refine Kx.lo HB rfl HC.out ?_)|((with_reducible refine zac ?_);first|refine l1g HB rfl rfl rfl ?_|refine Kx.lag HB rfl rfl ?_|refine Kx.log HB rfl HC.out rfl ?_)|((with_reducible refine zad ?_);(first|refine stwa HB rfl rfl ?_|refine sta HB rfl rfl ?_|refine Kx.stc HB rfl rfl ?_|refine Kx.stt HB rfl rfl rfl ?_|refine Kx.st1 HB rfl rfl rfl ?_);clear HB;intro w_ HB))
     go_ret
     exact ⟨by rw [HE.out];rfl,HB.out.below⟩
    ·have HS:=Lib.hid (Gm.zjr HT.out ht (by omega))
     have d1:decide (hi < t)=false:=decide_eq_false h1
     clear hc ht HT
     go_wp2_with (first|((with_reducible refine zah HB ?_);clear HB;intro w_ HB)|((with_reducible refine zae ?_);(first|refine boxa HB rfl ?_|refine boxt HB rfl rfl ?_|refine box1 HB rfl rfl ?_);clear HB;intro b_ w_ HB;refine Kx.fr ?_)|((with_reducible refine zaa ?_);(first|refine ala HB ?_|refine al1 HB ?_);clear HB;intro b_ w_ HB;refine Kx.fr ?_)|((with_reducible refine zab ?_);first|refine Kx.l1 HB rfl rfl ?_|refine Kx.la HB rfl ?_|refine Kx.lo HB rfl HC.out ?_)|((with_reducible refine zac ?_);first|refine l1g HB rfl rfl rfl ?_|refine Kx.lag HB rfl rfl ?_|refine Kx.log HB rfl HC.out rfl ?_)|((with_reducible refine zad ?_);(first|refine stwa HB rfl rfl ?_|refine sta HB rfl rfl ?_|refine Kx.stc HB rfl rfl ?_|refine Kx.stt HB rfl rfl rfl ?_|refine Kx.st1 HB rfl rfl rfl ?_);clear HB;intro w_ HB))
     go_roundg (gk - 1)
     case measure=>omega
     case rel=>exact ⟨k+1,by omega,by go_num,HS,HB⟩
  ·obtain rfl:k=n:=by omega
   have d0:decide ((k:Int) < (k:Int))=false:=by simp
   have HE:Hid (Gm.zbv lo hi l=true):=Lib.hid (by have:=HT.out;rwa [List.take_of_length_le (by rw [HN.out];exact Nat.le_refl _)] at this)
   clear HT
   go_wp2
   go_ret
   exact ⟨by rw [HE.out];rfl,HB.out.below⟩
theorem betL_any (lo hi : Int) (A : Option Addr) (n cap B : Nat) (l : List Int) (w : World) (hr : Rd w B A (Kc.i64s l)) (hn : l.length = n) (hm : n ≤ 8388607) :
  Calls Tryz.prog 76 #[.int .i64 lo,.int .i64 hi,.slice A n cap] w fun e w'=>e = .returned (.bool (Gm.zbv lo hi l))∧Below w.heap.size w w':=by
 have HB:=Lib.hid (Bxs.start w)
 have HR:=Lib.hid hr
 have HN:=Lib.hid hn
 clear hr hn
 go_enter Tryz.func76,Tryz.ntmps76
 go_wp2
 go_loopg [11] n (fun gh ix wr=>∃k:Nat,gh+k=n∧ix = .int .i64 (k:Int)∧Hid (Gm.zbv lo hi (l.take k)=true)∧Hid (Bxs w wr []))
 case atStart=>exact ⟨0,by omega,rfl,Lib.hid rfl,HB⟩
 case round =>
  clear HB
  obtain ⟨k,hk,rfl,HT,HB⟩:=hrel
  by_cases hlt:k < n
  ·obtain ⟨t,ht⟩ : ∃t,l[k]? = some t:=⟨l[k]'(by rw [HN.out];exact hlt),List.getElem?_eq_getElem _⟩
   obtain ⟨ad,rfl,-,hc⟩:=HR.out k (.int .i64 t) (by unfold Kc.i64s;rw [List.getElem?_map,ht];rfl)
   have HC:=Lib.hid hc
   have d3:(k:Int) < (n:Int):=by omega
   by_cases h0:t < lo
   ·have HE:=Lib.hid (Gm.zhr (lo:=lo) (hi:=hi) (List.mem_of_getElem? ht) (by omega))
    have d0:decide (t < lo)=true:=decide_eq_true h0
    clear hc ht HT
    go_wp2_with (first|((with_reducible refine zah HB ?_);clear HB;intro w_ HB)|((with_reducible refine zae ?_);(first|refine boxa HB rfl ?_|refine boxt HB rfl rfl ?_|refine box1 HB rfl rfl ?_);clear HB;intro b_ w_ HB;refine Kx.fr ?_)|((with_reducible refine zaa ?_);(first|refine ala HB ?_|refine al1 HB ?_);clear HB;intro b_ w_ HB;refine Kx.fr ?_)|((with_reducible refine zab ?_);first|refine Kx.l1 HB rfl rfl ?_|refine Kx.la HB rfl ?_|refine Kx.lo HB rfl HC.out ?_)|((with_reducible refine zac ?_);first|refine l1g HB rfl rfl rfl ?_|refine Kx.lag HB rfl rfl ?_|refine Kx.log HB rfl HC.out rfl ?_)|((with_reducible refine zad ?_);(first|refine stwa HB rfl rfl ?_|refine sta HB rfl rfl ?_|refine Kx.stc HB rfl rfl ?_|refine Kx.stt HB rfl rfl rfl ?_|refine Kx.st1 HB rfl rfl rfl ?_);clear HB;intro w_ HB))
    go_ret
    exact ⟨by rw [HE.out];rfl,HB.out.below⟩
   ·have d0:decide (t < lo)=false:=decide_eq_false h0
    by_cases h1:hi < t
    ·have HE:=Lib.hid (Gm.zhr (lo:=lo) (hi:=hi) (List.mem_of_getElem? ht) (by omega))
     have d1:decide (hi < t)=true:=decide_eq_true h1
     clear hc ht HT
     go_wp2_with (first|((with_reducible refine zah HB ?_);clear HB;intro w_ HB)|((with_reducible refine zae ?_);(first|refine boxa HB rfl ?_|refine boxt HB rfl rfl ?_|refine box1 HB rfl rfl ?_);clear HB;intro b_ w_ HB;refine Kx.fr ?_)|((with_reducible refine zaa ?_);(first|refine ala HB ?_|refine al1 HB ?_);clear HB;intro b_ w_ HB;refine Kx.fr ?_)|((with_reducible refine zab ?_);first|refine Kx.l1 HB rfl rfl ?_|refine Kx.la HB rfl ?_|refine Kx.lo HB rfl HC.out ?_)|((with_reducible refine zac ?_);first|refine l1g HB rfl rfl rfl ?_|refine Kx.lag HB rfl rfl ?_|refine Kx.log HB rfl HC.out rfl ?_)|((with_reducible refine zad ?_);(first|refine stwa HB rfl rfl ?_|refine sta HB rfl rfl ?_|refine Kx.stc HB rfl rfl ?_|refine Kx.stt HB rfl rfl rfl ?_|refine Kx.st1 HB rfl rfl rfl ?_);clear HB;intro w_ HB))
     go_ret
     exact ⟨by rw [HE.out];rfl,HB.out.below⟩
    ·have HS:=Lib.hid (Gm.zjr HT.out ht (by omega))
     have d1:decide (hi < t)=false:=decide_eq_false h1
     clear hc ht HT
     go_wp2_with (first|((with_reducible refine zah HB ?_);clear HB;intro w_ HB)|((with_reducible refine zae ?_);(first|refine boxa HB rfl ?_|refine boxt HB rfl rfl ?_|refine box1 HB rfl rfl ?_);clear HB;intro b_ w_ HB;refine Kx.fr ?_)|((with_reducible refine zaa ?_);(first|refine ala HB ?_|refine al1 HB ?_);clear HB;intro b_ w_ HB;refine Kx.fr ?_)|((with_reducible refine zab ?_);first|refine Kx.l1 HB rfl rfl ?_|refine Kx.la HB rfl ?_|refine Kx.lo HB rfl HC.out ?_)|((with_reducible refine zac ?_);first|refine l1g HB rfl rfl rfl ?_|refine Kx.lag HB rfl rfl ?_|refine Kx.log HB rfl HC.out rfl ?_)|((with_reducible refine zad ?_);(first|refine stwa HB rfl rfl ?_|refine sta HB rfl rfl ?_|refine Kx.stc HB rfl rfl ?_|refine Kx.stt HB rfl rfl rfl ?_|refine Kx.st1 HB rfl rfl rfl ?_);clear HB;intro w_ HB))
     go_roundg (gk - 1)
     case measure=>omega
     case rel=>exact ⟨k+1,by omega,by go_num,HS,HB⟩
  ·obtain rfl:k=n:=by omega
   have d0:decide ((k:Int) < (k:Int))=false:=by simp
   have HE:Hid (Gm.zbv lo hi l=true):=Lib.hid (by have:=HT.out;rwa [List.take_of_length_le (by rw [HN.out];exact Nat.le_refl _)] at this)
   clear HT
   go_wp2
   go_ret
   exact ⟨by rw [HE.out];rfl,HB.out.below⟩
namespace Gm
end Gm
namespace Gm
def bitsTo (m n:Nat):List Nat:=(List.range n).filter fun b=>m.testBit b
theorem zpf (m n:Nat):(bitsTo m n).length≤n:=by
 have:=List.length_filter_le (fun b=>m.testBit b) (List.range n)
 rwa [List.length_range] at this
def bestStep (ti:List Int) (f:Int) (t:Nat):Int:=if f = -1∨ti.getD t 0 < ti.getD f.toNat 0 then (t:Int) else f
end Gm
end Go.Proofs.YtponpgcpmlcdpaaGreatDoor
namespace Go.Proofs.YtponpgcpmlcdpaaGreatDoor
open Go.RowKit Go.Shelf Km Kx Kc
attribute [local go_sem] Oper.semAt_some
def valsT {n:Nat} (l:List (Fin n)):List Nat:=l.map Fin.val
theorem zf4 {n m:Nat} {pre:List (Fin n)} {l:List Nat} (h:valsT pre++l=Gm.bitsTo m n) (hl:l≠[]):pre.length < n:=by
 have h1:=congrArg List.length h
 have h2:=Gm.zpf m n
 have h3:0 < l.length:=List.length_pos_iff.2 hl
 rw [List.length_append] at h1
 unfold valsT at h1
 rw [List.length_map] at h1
 omega
end Go.Proofs.YtponpgcpmlcdpaaGreatDoor
namespace Go.Proofs.YtponpgcpmlcdpaaGreatDoor
open Go.RowKit Go.Shelf Km Kx Kc
attribute [local go_sem] Oper.semAt_some
theorem zl0 {W W':World} {B:Nat} {t:TypeId} {v:Value} (h:Boxed W B t v) {row:Option Nat} (hg:W.grownBy W' row) (hr:∀r,row=some r→∃o:Obj,W.heap[r]? = some o∧o.isCells=false):Boxed W' B t v :=
 h.kept hg fun e=>by
  obtain ⟨o,ho,hc⟩:=hr B e.symm
  rw [show W.heap[B]? = _ from h] at ho
  cases ho
  cases hc
def InvB {n:Nat} (bk:Nat) (w:World) (s:Value) (ti:List Int) (pre:List (Fin n)) (W:World):Prop :=
 Boxed W bk 22 s∧(∃f,f=(valsT pre).foldl (Gm.bestStep ti) (-1)∧(f = -1∨∃q:Nat,q < n∧f=(q:Int))∧Boxed W (bk+1) 3 (.int .i64 f))∧Below bk w W
theorem InvB.own {n:Nat} (bk B:Nat) (w:World) (s:Value) (ti:List Int) (hB:bk≤B):OwnFrom B (InvB (n:=n) bk w s ti):=fun _ _ _ _ ⟨h1,⟨f,h2,h3,h4⟩,h6⟩ hg hr =>
 ⟨zl0 h1 hg (fun r e=>(hr r e).2),⟨f,h2,h3,zl0 h4 hg (fun r e=>(hr r e).2)⟩,h6.grown hg (by have:=h1.lt;omega) (fun r e=>by have:=(hr r e).1;omega)⟩
end Go.Proofs.YtponpgcpmlcdpaaGreatDoor
namespace Go.Proofs.YtponpgcpmlcdpaaGreatDoor
open Go.RowKit Go.Shelf Km Kx Kc
set_option linter.unusedVariables false
theorem zef (lo hi : Int) (A : Option Addr) (n cap B : Nat) (l : List Int) (w : World) (b : Bool) (hb : Gm.zbv lo hi l = b) (hr : Rd w B A (Kc.i64s l)) (hn : l.length = n) (hm : n ≤ 8388607) :
  Calls Tryz.prog 75 #[.int .i64 lo,.int .i64 hi,.slice A n cap] w fun e w'=>e = .returned (.bool b)∧Below w.heap.size w w':=hb▸betI_any lo hi A n cap B l w hr hn hm
theorem bets_L (lo hi : Int) (A : Option Addr) (n cap B : Nat) (l : List Int) (w : World) (b : Bool) (hb : Gm.zbv lo hi l = b) (hr : Rd w B A (Kc.i64s l)) (hn : l.length = n) (hm : n ≤ 8388607) :
  Calls Tryz.prog 76 #[.int .i64 lo,.int .i64 hi,.slice A n cap] w fun e w'=>e = .returned (.bool b)∧Below w.heap.size w w':=hb▸betL_any lo hi A n cap B l w hr hn hm
theorem in_one {lo hi a:Int}:Gm.zbv lo hi [a]=true↔lo≤a∧a≤hi:=by rw [Gm.zgi];simp
def zey (c:Cf) (xs:List Int):Bool:=(Gm.zbv 0 3 [c.f])&&(Gm.zbv 1 4 [c.deciders,c.routers])&&(Gm.zbv 1 16 [c.targets])&&(Gm.zbv 1 7 [c.observers])&&(((c.tn:Int) == c.targets))&&(Gm.zbv 0 15 xs)
set_option maxHeartbeats 4000000 in
theorem zi6 (c : Cf) (xs : List Int) (w : World) (hr : Rd w w.heap.size c.ta (Kc.i64s xs)) (hl : xs.length = c.tn) (hyy : zey c xs = true) :
  Calls Tryz.prog 48 #[.agg (cf c).toArray] w fun e w'=>e = .returned (.bool true)∧Below w.heap.size w w':=by
 have HB:=Lib.hid (Bxs.start w)
 have HRD:=Lib.hid hr
 have HL:=Lib.hid hl
 obtain ⟨yf,ydeciders,ytargets,yrouters,yobservers,yta,ytn,ytc,yevery,ywait,yrise,yfall,yfresh,yl,ym,ydwell,yd,yw,yb,yhit,ysuppress,yreuse,yhalf,yfirst,ystep,ystepTime,ys,ycap,yspan,yroom,ytries,yretry⟩:=c
 unfold zey at hyy
 dsimp only [cf] at *
 clear hr hl
 cases hf:Gm.zbv 0 3 [yf] with
 |false=>rw [hf] at hyy;simp at hyy
 |true =>
 have Hf:=Lib.hid hf
 cases hdr:Gm.zbv 1 4 [ydeciders,yrouters] with
 |false=>rw [hdr] at hyy;simp at hyy
 |true =>
 have Hdr:=Lib.hid hdr
 cases ht:Gm.zbv 1 16 [ytargets] with
 |false=>rw [ht] at hyy;simp at hyy
 |true =>
 have Ht:=Lib.hid ht
 have ht':=in_one.1 ht
 cases ho:Gm.zbv 1 7 [yobservers] with
 |false=>rw [ho] at hyy;simp at hyy
 |true =>
 have Ho:=Lib.hid ho
 cases hqn:((ytn:Int) == ytargets) with
 |false=>rw [hqn] at hyy;simp at hyy
 |true =>
 have hm8:ytn≤8388607:=by have hqn':(ytn:Int)=ytargets:=(by simpa using hqn);omega
 cases hti:Gm.zbv 0 15 xs with
 |false=>rw [hti] at hyy;simp at hyy
 |true =>
 have Hti:=Lib.hid hti
 clear hf
 clear hdr
 clear ht
 clear ho
 clear hti
 clear hyy
 go_enter Tryz.func48,Tryz.ntmps48
 go_wp2_with (first|(go_at_call 75;with_reducible refine zav #[.int .i64 0,.int .i64 3,.slice _ 1 _] ?_;refine Calls.mono (zef 0 3 _ 1 _ _ [yf] _ true Hf.out (HB.out.rd (cs:=[.int .i64 yf])) rfl (by decide)) ?_;rintro e w_ ⟨rfl,hb_⟩;replace HB:=Lib.hid (HB.out.call hb_);clear hb_)|(go_at_call 75;with_reducible refine zav #[.int .i64 1,.int .i64 4,.slice _ 2 _] ?_;refine Calls.mono (zef 1 4 _ 2 _ _ [ydeciders,yrouters] _ true Hdr.out (HB.out.rd (cs:=[.int .i64 ydeciders,.int .i64 yrouters])) rfl (by decide)) ?_;rintro e w_ ⟨rfl,hb_⟩;replace HB:=Lib.hid (HB.out.call hb_);clear hb_)|(go_at_call 75;with_reducible refine zav #[.int .i64 1,.int .i64 16,.slice _ 1 _] ?_;refine Calls.mono (zef 1 16 _ 1 _ _ [ytargets] _ true Ht.out (HB.out.rd (cs:=[.int .i64 ytargets])) rfl (by decide)) ?_;rintro e w_ ⟨rfl,hb_⟩;replace HB:=Lib.hid (HB.out.call hb_);clear hb_)|(go_at_call 75;with_reducible refine zav #[.int .i64 1,.int .i64 7,.slice _ 1 _] ?_;refine Calls.mono (zef 1 7 _ 1 _ _ [yobservers] _ true Ho.out (HB.out.rd (cs:=[.int .i64 yobservers])) rfl (by decide)) ?_;rintro e w_ ⟨rfl,hb_⟩;replace HB:=Lib.hid (HB.out.call hb_);clear hb_)|(go_at_call 75;with_reducible refine zav #[.int .i64 0,.int .i64 15,_] ?_;refine Calls.mono (zef 0 15 yta ytn ytc _ xs _ true Hti.out (HRD.out.below HB.out.below) HL.out hm8) ?_;rintro e w_ ⟨rfl,hb_⟩;replace HB:=Lib.hid (HB.out.call hb_);clear hb_)|(first|((with_reducible refine zah HB ?_);clear HB;intro w_ HB)|((with_reducible refine zae ?_);(first|refine boxa HB rfl ?_|refine boxt HB rfl rfl ?_|refine box1 HB rfl rfl ?_);clear HB;intro b_ w_ HB;refine Kx.fr ?_)|((with_reducible refine zaa ?_);(first|refine ala HB ?_|refine al1 HB ?_);clear HB;intro b_ w_ HB;refine Kx.fr ?_)|((with_reducible refine zab ?_);first|refine Kx.l1 HB rfl rfl ?_|refine Kx.la HB rfl ?_|refine Kx.lo HB rfl HC.out ?_)|((with_reducible refine zac ?_);first|refine l1g HB rfl rfl rfl ?_|refine Kx.lag HB rfl rfl ?_|refine Kx.log HB rfl HC.out rfl ?_)|((with_reducible refine zad ?_);(first|refine stwa HB rfl rfl ?_|refine sta HB rfl rfl ?_|refine Kx.stc HB rfl rfl ?_|refine Kx.stt HB rfl rfl rfl ?_|refine Kx.st1 HB rfl rfl rfl ?_);clear HB;intro w_ HB)))
 go_ret
 exact ⟨rfl,HB.out.below⟩
def zex (c:Cf) (xs:List Int):Bool:=(Gm.zbv 1 1048576 [c.every,c.wait,c.fresh,c.l,c.dwell,c.d,c.w,c.half,c.stepTime,c.s,c.span,c.retry])&&(Gm.zbv 0 1048576 [c.m])
set_option maxHeartbeats 4000000 in
theorem zi5 (c : Cf) (xs : List Int) (w : World) (hr : Rd w w.heap.size c.ta (Kc.i64s xs)) (hl : xs.length = c.tn) (hyy : zex c xs = true) :
  Calls Tryz.prog 49 #[.agg (cf c).toArray] w fun e w'=>e = .returned (.bool true)∧Below w.heap.size w w':=by
 have HB:=Lib.hid (Bxs.start w)
 have HRD:=Lib.hid hr
 have HL:=Lib.hid hl
 obtain ⟨yf,ydeciders,ytargets,yrouters,yobservers,yta,ytn,ytc,yevery,ywait,yrise,yfall,yfresh,yl,ym,ydwell,yd,yw,yb,yhit,ysuppress,yreuse,yhalf,yfirst,ystep,ystepTime,ys,ycap,yspan,yroom,ytries,yretry⟩:=c
 unfold zex at hyy
 dsimp only [cf] at *
 clear hr hl
 cases hsp:Gm.zbv 1 1048576 [yevery,ywait,yfresh,yl,ydwell,yd,yw,yhalf,ystepTime,ys,yspan,yretry] with
 |false=>rw [hsp] at hyy;simp at hyy
 |true =>
 have Hsp:=Lib.hid hsp
 cases hm:Gm.zbv 0 1048576 [ym] with
 |false=>rw [hm] at hyy;simp at hyy
 |true =>
 have Hm:=Lib.hid hm
 clear hsp
 clear hm
 clear hyy
 go_enter Tryz.func49,Tryz.ntmps49
 go_wp2_with (first|(go_at_call 76;with_reducible refine zav #[.int .i64 1,.int .i64 1048576,.slice _ 12 _] ?_;refine Calls.mono (bets_L 1 1048576 _ 12 _ _ [yevery,ywait,yfresh,yl,ydwell,yd,yw,yhalf,ystepTime,ys,yspan,yretry] _ true Hsp.out (HB.out.rd (cs:=[.int .i64 yevery,.int .i64 ywait,.int .i64 yfresh,.int .i64 yl,.int .i64 ydwell,.int .i64 yd,.int .i64 yw,.int .i64 yhalf,.int .i64 ystepTime,.int .i64 ys,.int .i64 yspan,.int .i64 yretry])) rfl (by decide)) ?_;rintro e w_ ⟨rfl,hb_⟩;replace HB:=Lib.hid (HB.out.call hb_);clear hb_)|(go_at_call 76;with_reducible refine zav #[.int .i64 0,.int .i64 1048576,.slice _ 1 _] ?_;refine Calls.mono (bets_L 0 1048576 _ 1 _ _ [ym] _ true Hm.out (HB.out.rd (cs:=[.int .i64 ym])) rfl (by decide)) ?_;rintro e w_ ⟨rfl,hb_⟩;replace HB:=Lib.hid (HB.out.call hb_);clear hb_)|(first|((with_reducible refine zah HB ?_);clear HB;intro w_ HB)|((with_reducible refine zae ?_);(first|refine boxa HB rfl ?_|refine boxt HB rfl rfl ?_|refine box1 HB rfl rfl ?_);clear HB;intro b_ w_ HB;refine Kx.fr ?_)|((with_reducible refine zaa ?_);(first|refine ala HB ?_|refine al1 HB ?_);clear HB;intro b_ w_ HB;refine Kx.fr ?_)|((with_reducible refine zab ?_);first|refine Kx.l1 HB rfl rfl ?_|refine Kx.la HB rfl ?_|refine Kx.lo HB rfl HC.out ?_)|((with_reducible refine zac ?_);first|refine l1g HB rfl rfl rfl ?_|refine Kx.lag HB rfl rfl ?_|refine Kx.log HB rfl HC.out rfl ?_)|((with_reducible refine zad ?_);(first|refine stwa HB rfl rfl ?_|refine sta HB rfl rfl ?_|refine Kx.stc HB rfl rfl ?_|refine Kx.stt HB rfl rfl rfl ?_|refine Kx.st1 HB rfl rfl rfl ?_);clear HB;intro w_ HB)))
 go_ret
 exact ⟨rfl,HB.out.below⟩
def zc4 (c:Cf) (xs:List Int):Bool:=(Gm.zbv 0 1000000 [c.hit])&&(Gm.zbv 1 1000000 [c.suppress])&&(Gm.zbv 0 (c.suppress - 1) [c.reuse])
set_option maxHeartbeats 4000000 in
theorem zgb (c : Cf) (xs : List Int) (w : World) (hr : Rd w w.heap.size c.ta (Kc.i64s xs)) (hl : xs.length = c.tn) (hyy : zc4 c xs = true) :
  Calls Tryz.prog 50 #[.agg (cf c).toArray] w fun e w'=>e = .returned (.bool true)∧Below w.heap.size w w':=by
 have HB:=Lib.hid (Bxs.start w)
 have HRD:=Lib.hid hr
 have HL:=Lib.hid hl
 obtain ⟨yf,ydeciders,ytargets,yrouters,yobservers,yta,ytn,ytc,yevery,ywait,yrise,yfall,yfresh,yl,ym,ydwell,yd,yw,yb,yhit,ysuppress,yreuse,yhalf,yfirst,ystep,ystepTime,ys,ycap,yspan,yroom,ytries,yretry⟩:=c
 unfold zc4 at hyy
 dsimp only [cf] at *
 clear hr hl
 cases hh:Gm.zbv 0 1000000 [yhit] with
 |false=>rw [hh] at hyy;simp at hyy
 |true =>
 have Hh:=Lib.hid hh
 cases hsu:Gm.zbv 1 1000000 [ysuppress] with
 |false=>rw [hsu] at hyy;simp at hyy
 |true =>
 have Hsu:=Lib.hid hsu
 have hsu':=in_one.1 hsu
 cases hre:Gm.zbv 0 (ysuppress - 1) [yreuse] with
 |false=>rw [hre] at hyy;simp at hyy
 |true =>
 have Hre:=Lib.hid hre
 clear hh
 clear hsu
 clear hre
 clear hyy
 go_enter Tryz.func50,Tryz.ntmps50
 go_wp2_with (first|(go_at_call 75;with_reducible refine zav #[.int .i64 0,.int .i64 1000000,.slice _ 1 _] ?_;refine Calls.mono (zef 0 1000000 _ 1 _ _ [yhit] _ true Hh.out (HB.out.rd (cs:=[.int .i64 yhit])) rfl (by decide)) ?_;rintro e w_ ⟨rfl,hb_⟩;replace HB:=Lib.hid (HB.out.call hb_);clear hb_)|(go_at_call 75;with_reducible refine zav #[.int .i64 1,.int .i64 1000000,.slice _ 1 _] ?_;refine Calls.mono (zef 1 1000000 _ 1 _ _ [ysuppress] _ true Hsu.out (HB.out.rd (cs:=[.int .i64 ysuppress])) rfl (by decide)) ?_;rintro e w_ ⟨rfl,hb_⟩;replace HB:=Lib.hid (HB.out.call hb_);clear hb_)|(go_at_call 75;with_reducible refine zav #[.int .i64 0,.int .i64 (ysuppress - 1),.slice _ 1 _] ?_;refine Calls.mono (zef 0 (ysuppress - 1) _ 1 _ _ [yreuse] _ true Hre.out (HB.out.rd (cs:=[.int .i64 yreuse])) rfl (by decide)) ?_;rintro e w_ ⟨rfl,hb_⟩;replace HB:=Lib.hid (HB.out.call hb_);clear hb_)|(first|((with_reducible refine zah HB ?_);clear HB;intro w_ HB)|((with_reducible refine zae ?_);(first|refine boxa HB rfl ?_|refine boxt HB rfl rfl ?_|refine box1 HB rfl rfl ?_);clear HB;intro b_ w_ HB;refine Kx.fr ?_)|((with_reducible refine zaa ?_);(first|refine ala HB ?_|refine al1 HB ?_);clear HB;intro b_ w_ HB;refine Kx.fr ?_)|((with_reducible refine zab ?_);first|refine Kx.l1 HB rfl rfl ?_|refine Kx.la HB rfl ?_|refine Kx.lo HB rfl HC.out ?_)|((with_reducible refine zac ?_);first|refine l1g HB rfl rfl rfl ?_|refine Kx.lag HB rfl rfl ?_|refine Kx.log HB rfl HC.out rfl ?_)|((with_reducible refine zad ?_);(first|refine stwa HB rfl rfl ?_|refine sta HB rfl rfl ?_|refine Kx.stc HB rfl rfl ?_|refine Kx.stt HB rfl rfl rfl ?_|refine Kx.st1 HB rfl rfl rfl ?_);clear HB;intro w_ HB)))
 go_ret
 exact ⟨rfl,HB.out.below⟩
def zd8 (c:Cf) (xs:List Int):Bool:=(Gm.zbv 1 100 [c.rise,c.fall])&&(Gm.zbv 1 100 [c.first,c.step])&&(Gm.zbv 1 8 [c.b])&&(Gm.zbv 1 1000 [c.cap])&&(Gm.zbv 1 64 [c.room])&&(Gm.zbv 1 20 [c.tries])
set_option maxHeartbeats 4000000 in
theorem zh8 (c : Cf) (xs : List Int) (w : World) (hr : Rd w w.heap.size c.ta (Kc.i64s xs)) (hl : xs.length = c.tn) (hyy : zd8 c xs = true) :
  Calls Tryz.prog 51 #[.agg (cf c).toArray] w fun e w'=>e = .returned (.bool true)∧Below w.heap.size w w':=by
 have HB:=Lib.hid (Bxs.start w)
 have HRD:=Lib.hid hr
 have HL:=Lib.hid hl
 obtain ⟨yf,ydeciders,ytargets,yrouters,yobservers,yta,ytn,ytc,yevery,ywait,yrise,yfall,yfresh,yl,ym,ydwell,yd,yw,yb,yhit,ysuppress,yreuse,yhalf,yfirst,ystep,ystepTime,ys,ycap,yspan,yroom,ytries,yretry⟩:=c
 unfold zd8 at hyy
 dsimp only [cf] at *
 clear hr hl
 cases hrf:Gm.zbv 1 100 [yrise,yfall] with
 |false=>rw [hrf] at hyy;simp at hyy
 |true =>
 have Hrf:=Lib.hid hrf
 cases hfs:Gm.zbv 1 100 [yfirst,ystep] with
 |false=>rw [hfs] at hyy;simp at hyy
 |true =>
 have Hfs:=Lib.hid hfs
 cases hb:Gm.zbv 1 8 [yb] with
 |false=>rw [hb] at hyy;simp at hyy
 |true =>
 have Hb:=Lib.hid hb
 cases hc:Gm.zbv 1 1000 [ycap] with
 |false=>rw [hc] at hyy;simp at hyy
 |true =>
 have Hc:=Lib.hid hc
 cases hro:Gm.zbv 1 64 [yroom] with
 |false=>rw [hro] at hyy;simp at hyy
 |true =>
 have Hro:=Lib.hid hro
 cases htr:Gm.zbv 1 20 [ytries] with
 |false=>rw [htr] at hyy;simp at hyy
 |true =>
 have Htr:=Lib.hid htr
 clear hrf
 clear hfs
 clear hb
 clear hc
 clear hro
 clear htr
 clear hyy
 go_enter Tryz.func51,Tryz.ntmps51
 go_wp2_with (first|(go_at_call 75;with_reducible refine zav #[.int .i64 1,.int .i64 100,.slice _ 2 _] ?_;refine Calls.mono (zef 1 100 _ 2 _ _ [yrise,yfall] _ true Hrf.out (HB.out.rd (cs:=[.int .i64 yrise,.int .i64 yfall])) rfl (by decide)) ?_;rintro e w_ ⟨rfl,hb_⟩;replace HB:=Lib.hid (HB.out.call hb_);clear hb_)|(go_at_call 75;with_reducible refine zav #[.int .i64 1,.int .i64 100,.slice _ 2 _] ?_;refine Calls.mono (zef 1 100 _ 2 _ _ [yfirst,ystep] _ true Hfs.out (HB.out.rd (cs:=[.int .i64 yfirst,.int .i64 ystep])) rfl (by decide)) ?_;rintro e w_ ⟨rfl,hb_⟩;replace HB:=Lib.hid (HB.out.call hb_);clear hb_)|(go_at_call 75;with_reducible refine zav #[.int .i64 1,.int .i64 8,.slice _ 1 _] ?_;refine Calls.mono (zef 1 8 _ 1 _ _ [yb] _ true Hb.out (HB.out.rd (cs:=[.int .i64 yb])) rfl (by decide)) ?_;rintro e w_ ⟨rfl,hb_⟩;replace HB:=Lib.hid (HB.out.call hb_);clear hb_)|(go_at_call 75;with_reducible refine zav #[.int .i64 1,.int .i64 1000,.slice _ 1 _] ?_;refine Calls.mono (zef 1 1000 _ 1 _ _ [ycap] _ true Hc.out (HB.out.rd (cs:=[.int .i64 ycap])) rfl (by decide)) ?_;rintro e w_ ⟨rfl,hb_⟩;replace HB:=Lib.hid (HB.out.call hb_);clear hb_)|(go_at_call 75;with_reducible refine zav #[.int .i64 1,.int .i64 64,.slice _ 1 _] ?_;refine Calls.mono (zef 1 64 _ 1 _ _ [yroom] _ true Hro.out (HB.out.rd (cs:=[.int .i64 yroom])) rfl (by decide)) ?_;rintro e w_ ⟨rfl,hb_⟩;replace HB:=Lib.hid (HB.out.call hb_);clear hb_)|(go_at_call 75;with_reducible refine zav #[.int .i64 1,.int .i64 20,.slice _ 1 _] ?_;refine Calls.mono (zef 1 20 _ 1 _ _ [ytries] _ true Htr.out (HB.out.rd (cs:=[.int .i64 ytries])) rfl (by decide)) ?_;rintro e w_ ⟨rfl,hb_⟩;replace HB:=Lib.hid (HB.out.call hb_);clear hb_)|(first|((with_reducible refine zah HB ?_);clear HB;intro w_ HB)|((with_reducible refine zae ?_);(first|refine boxa HB rfl ?_|refine boxt HB rfl rfl ?_|refine box1 HB rfl rfl ?_);clear HB;intro b_ w_ HB;refine Kx.fr ?_)|((with_reducible refine zaa ?_);(first|refine ala HB ?_|refine al1 HB ?_);clear HB;intro b_ w_ HB;refine Kx.fr ?_)|((with_reducible refine zab ?_);first|refine Kx.l1 HB rfl rfl ?_|refine Kx.la HB rfl ?_|refine Kx.lo HB rfl HC.out ?_)|((with_reducible refine zac ?_);first|refine l1g HB rfl rfl rfl ?_|refine Kx.lag HB rfl rfl ?_|refine Kx.log HB rfl HC.out rfl ?_)|((with_reducible refine zad ?_);(first|refine stwa HB rfl rfl ?_|refine sta HB rfl rfl ?_|refine Kx.stc HB rfl rfl ?_|refine Kx.stt HB rfl rfl rfl ?_|refine Kx.st1 HB rfl rfl rfl ?_);clear HB;intro w_ HB)))
 go_ret
 exact ⟨rfl,HB.out.below⟩
end Go.Proofs.YtponpgcpmlcdpaaGreatDoor
namespace Go.Proofs.YtponpgcpmlcdpaaGreatDoor
open Go.RowKit Go.Shelf Km Kx Kc Kt
set_option linter.unusedVariables false
def znu (c:Cf) (xs:List Int):Bool:=zey c xs&&zex c xs&&zc4 c xs&&zd8 c xs
theorem zbr (c:Cf) (xs:List Int):znu c xs=true↔zfa c xs:=by
 unfold znu zey zex zc4 zd8
 simp only [Bool.and_eq_true,Gm.zgi,beq_iff_eq,List.forall_mem_cons,List.not_mem_nil,false_implies,implies_true,and_true]
 constructor
 ·rintro ⟨⟨⟨⟨⟨⟨⟨⟨hf,hd,hro⟩,ht⟩,ho⟩,hn⟩,hti⟩,⟨⟨a1,a2,a3,a4,a5,a6,a7,a8,a9,a10,a11,a12⟩,hm⟩⟩,⟨hh,hsu⟩,hre⟩,⟨⟨⟨⟨⟨hr,hfa⟩,hfi,hst⟩,hb⟩,hca⟩,hroo⟩,htr⟩
  exact ⟨hf,hd,hro,ht,ho,hn,hti,a1,a2,a3,a4,a5,a6,a7,a8,a9,a10,a11,a12,hm,hr,hfa,hb,hh,hsu,hre,hfi,hst,hca,hroo,htr⟩
 ·rintro ⟨hf,hd,hro,ht,ho,hn,hti,a1,a2,a3,a4,a5,a6,a7,a8,a9,a10,a11,a12,hm,hr,hfa,hb,hh,hsu,hre,hfi,hst,hca,hroo,htr⟩
  exact ⟨⟨⟨⟨⟨⟨⟨⟨hf,hd,hro⟩,ht⟩,ho⟩,hn⟩,hti⟩,⟨⟨a1,a2,a3,a4,a5,a6,a7,a8,a9,a10,a11,a12⟩,hm⟩⟩,⟨hh,hsu⟩,hre⟩,⟨⟨⟨⟨⟨hr,hfa⟩,hfi,hst⟩,hb⟩,hca⟩,hroo⟩,htr⟩
set_option maxHeartbeats 2000000 in
theorem zok (c : Cf) (xs : List Int) (w : World) (hr : Rd w w.heap.size c.ta (Kc.i64s xs)) (hl : xs.length = c.tn) (hyy : znu c xs = true) :
  Calls Tryz.prog 26 #[.agg (cf c).toArray] w fun e w'=>e = .returned (.bool true)∧Below w.heap.size w w':=by
 have HB:=Lib.hid (Bxs.start w)
 unfold znu at hyy
 simp only [Bool.and_eq_true] at hyy
 obtain ⟨⟨⟨hy1,hy2⟩,hy3⟩,hy4⟩:=hyy
 have H1:Hid (∀W,Below w.heap.size w W→Calls Tryz.prog 48 #[.agg (cf c).toArray] W fun e w'=>e = .returned (.bool true)∧Below W.heap.size W w'):=Lib.hid (fun W hb=>zi6 c xs W ((hr.below hb).more hb.size) hl hy1)
 have H2:Hid (∀W,Below w.heap.size w W→Calls Tryz.prog 49 #[.agg (cf c).toArray] W fun e w'=>e = .returned (.bool true)∧Below W.heap.size W w'):=Lib.hid (fun W hb=>zi5 c xs W ((hr.below hb).more hb.size) hl hy2)
 have H3:Hid (∀W,Below w.heap.size w W→Calls Tryz.prog 50 #[.agg (cf c).toArray] W fun e w'=>e = .returned (.bool true)∧Below W.heap.size W w'):=Lib.hid (fun W hb=>zgb c xs W ((hr.below hb).more hb.size) hl hy3)
 have H4:Hid (∀W,Below w.heap.size w W→Calls Tryz.prog 51 #[.agg (cf c).toArray] W fun e w'=>e = .returned (.bool true)∧Below W.heap.size W w'):=Lib.hid (fun W hb=>zh8 c xs W ((hr.below hb).more hb.size) hl hy4)
 clear hr hl hy1 hy2 hy3 hy4
 go_enter Tryz.func26,Tryz.ntmps26
 go_wp2_with (first|(go_at_call 48;refine Calls.mono (H1.out _ HB.out.below) ?_;rintro e w_ ⟨rfl,hb_⟩;replace HB:=Lib.hid (HB.out.call hb_);clear hb_)|(go_at_call 49;refine Calls.mono (H2.out _ HB.out.below) ?_;rintro e w_ ⟨rfl,hb_⟩;replace HB:=Lib.hid (HB.out.call hb_);clear hb_)|(go_at_call 50;refine Calls.mono (H3.out _ HB.out.below) ?_;rintro e w_ ⟨rfl,hb_⟩;replace HB:=Lib.hid (HB.out.call hb_);clear hb_)|(go_at_call 51;refine Calls.mono (H4.out _ HB.out.below) ?_;rintro e w_ ⟨rfl,hb_⟩;replace HB:=Lib.hid (HB.out.call hb_);clear hb_)|(first|((with_reducible refine zah HB ?_);clear HB;intro w_ HB)|((with_reducible refine zae ?_);(first|refine boxa HB rfl ?_|refine boxt HB rfl rfl ?_|refine box1 HB rfl rfl ?_);clear HB;intro b_ w_ HB;refine Kx.fr ?_)|((with_reducible refine zaa ?_);(first|refine ala HB ?_|refine al1 HB ?_);clear HB;intro b_ w_ HB;refine Kx.fr ?_)|((with_reducible refine zab ?_);first|refine Kx.l1 HB rfl rfl ?_|refine Kx.la HB rfl ?_|refine Kx.lo HB rfl HC.out ?_)|((with_reducible refine zac ?_);first|refine l1g HB rfl rfl rfl ?_|refine Kx.lag HB rfl rfl ?_|refine Kx.log HB rfl HC.out rfl ?_)|((with_reducible refine zad ?_);(first|refine stwa HB rfl rfl ?_|refine sta HB rfl rfl ?_|refine Kx.stc HB rfl rfl ?_|refine Kx.stt HB rfl rfl rfl ?_|refine Kx.st1 HB rfl rfl rfl ?_);clear HB;intro w_ HB)))
 go_ret
 exact ⟨rfl,HB.out.below⟩
end Go.Proofs.YtponpgcpmlcdpaaGreatDoor
