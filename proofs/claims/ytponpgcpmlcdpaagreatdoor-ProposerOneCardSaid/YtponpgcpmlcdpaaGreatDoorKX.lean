import Derived.Test.YtponpgcpmlcdpaaGreatDoorKitX
import Derived.Test.YtponpgcpmlcdpaaGreatDoorKitM
import Derived.Test.YtponpgcpmlcdpaaGreatDoorBK
import Derived.Deep.Onto
import Derived.Laws.BitsAllLaws
import Derived.OpenShut
import Derived.ChangeOld
import Derived.ChangeAt
import Derived.Deep.Fields
import Derived.Deep.Matrix
namespace Go.Proofs.YtponpgcpmlcdpaaGreatDoor.Kx
open Go.RowKit Go.Shelf
set_option linter.unusedVariables false
class OneC (P:Program) (ty:TypeId):Prop where
 out:∀w,(isAgg ty).run P w = .ok false w
class AggC (P:Program) (ty:TypeId) (n:outParam Nat):Prop where
 agg:∀w,(isAgg ty).run P w = .ok true w
 size:∀w,(sizeOf ty).run P w = .ok n w
class ZAgg (P:Program) (ty:TypeId) (cs:outParam (List Value)):Prop where
 out:∀w,(zeroValue ty).run P w = .ok (.agg cs.toArray) w
class ZOne (P:Program) (ty:TypeId) (z:outParam Value):Prop where
 out:∀w,(zeroValue ty).run P w = .ok z w
section
variable {P:Program} {ops:Array Oper} {rest:List Oper} {op:Oper} {a a':Act} {w w0:World} {l l':List (Nat×List Value)} {r r':List Rw} {F:Fz} {Q:Exit→Act→World→Prop}
variable {ty t2:TypeId} {x y:Operand} {pos:String} {af:Array Edge} {d:Option Tmp} {b o:Nat} {cs old new:List Value} {v:Value} {g:Nat×Bool}
theorem fr (h:wpList P ops Q rest a' w) (ha:a.put d v=a':=by simp only [Act.put,List.setIfInBounds_toArray,List.set_cons_succ,List.set_cons_zero]<;>rfl):wpList P ops Q rest (a.put d v) w:=ha▸h
theorem boxa (hB : Hid (Bxs w0 w l r F)) (hx : a.eval x = .agg cs.toArray)
  (h:∀b w',Hid (Bxs w0 w' ((b,cs)::l) r F)→wpList P ops Q rest (a.put d (.pointer (some ⟨b,0,none⟩))) w'):wpList P ops Q (Oper.mk d (.box ty x) t2 pos af none::rest) a w:=zcn hB rfl _ _ rfl cs hx h
theorem boxt {k : Nat} (hB : Hid (Bxs w0 w l r F)) (hx : a.tmps[k]? = some v) (hv : v.oneCell' = true)
  (h:∀b w',Hid (Bxs w0 w' ((b,[v])::l) r F)→wpList P ops Q rest (a.put d (.pointer (some ⟨b,0,none⟩))) w'):wpList P ops Q (Oper.mk d (.box ty (.tmp k)) t2 pos af none::rest) a w:=zcm hB rfl _ _ rfl v hx hv h
theorem box1 (hB : Hid (Bxs w0 w l r F)) (hx : a.eval x = v) (hv : v.oneCell' = true)
  (h:∀b w',Hid (Bxs w0 w' ((b,[v])::l) r F)→wpList P ops Q rest (a.put d (.pointer (some ⟨b,0,none⟩))) w'):wpList P ops Q (Oper.mk d (.box ty x) t2 pos af none::rest) a w:=zca hB rfl _ _ rfl v hx hv h
theorem ala [hz : ZAgg P ty cs] (hB : Hid (Bxs w0 w l r F))
  (h:∀b w',Hid (Bxs w0 w' ((b,cs)::l) r F)→wpList P ops Q rest (a.put d (.pointer (some ⟨b,0,none⟩))) w'):wpList P ops Q (Oper.mk d (.alloc ty) t2 pos af none::rest) a w:=zb5 hB rfl _ rfl cs (hz.out w) h
theorem al1 [hz : ZOne P ty v] (hB : Hid (Bxs w0 w l r F))
  (h:∀b w',Hid (Bxs w0 w' ((b,[v])::l) r F)→wpList P ops Q rest (a.put d (.pointer (some ⟨b,0,none⟩))) w') (hv:v.oneCell'=true:=by rfl):wpList P ops Q (Oper.mk d (.alloc ty) t2 pos af none::rest) a w:=zbt hB rfl _ rfl v (hz.out w) hv h
theorem l1 [hA : OneC P ty] (hB : Hid (Bxs w0 w l r F)) (hx : a.eval x = .pointer (some ⟨b, o, none⟩)) [hm : InL b cs l] (hv : cs[o]? = some v) (h : wpList P ops Q rest a' w)
  (ha:a.put d v=a':=by simp only [Act.put,List.setIfInBounds_toArray,List.set_cons_succ,List.set_cons_zero]<;>rfl):wpList P ops Q (Oper.mk d (.load ty x) t2 pos af none::rest) a w :=
 zai hB rfl _ _ rfl b hx cs (hA.out w) v hv (framed h ha)
theorem la {n : Nat} [hA : AggC P ty n] (hB : Hid (Bxs w0 w l r F)) (hx : a.eval x = .pointer (some ⟨b, o, none⟩)) [hm : InL b cs l] (h : wpList P ops Q rest a' w)
  (hms:(cs.drop o).take n=new:=by first|exact Kx.whole (by rfl)|(simp<;>rfl)) (hn:new.length=n:=by rfl)
  (ha:a.put d (.agg new.toArray)=a':=by simp only [Act.put,List.setIfInBounds_toArray,List.set_cons_succ,List.set_cons_zero]<;>rfl):wpList P ops Q (Oper.mk d (.load ty x) t2 pos af none::rest) a w :=
 zam hB rfl _ _ rfl b hx cs n (hA.agg w) (hA.size w) new hms hn (framed h ha)
theorem lo {ad : Addr} [hA : OneC P ty] (hB : Hid (Bxs w0 w l r F)) (hx : a.eval x = .pointer (some ad)) (hc : w0.cell? ad = some v) (h : wpList P ops Q rest a' w)
  (ha:a.put d v=a':=by simp only [Act.put,List.setIfInBounds_toArray,List.set_cons_succ,List.set_cons_zero]<;>rfl):wpList P ops Q (Oper.mk d (.load ty x) t2 pos af none::rest) a w :=
 zc1 hB rfl _ _ rfl ad hx (hA.out w) v hc (framed h ha)
theorem l1g [hA : OneC P ty] (hB : Hid (Bxs w0 w l r F)) (hx : a.eval x = .pointer (some ⟨b, o, none⟩)) [hm : InL b cs l] (hv : cs[o]? = some v) (hn : Region.wanted (Oper.mk d (.load ty x) t2 pos af (some g)) (yielded ops a.tmps) = true) (h : wpList P ops Q rest a' w)
  (ha:a.put d v=a':=by simp only [Act.put,List.setIfInBounds_toArray,List.set_cons_succ,List.set_cons_zero]<;>rfl):wpList P ops Q (Oper.mk d (.load ty x) t2 pos af (some g)::rest) a w :=
 zaj hB _ _ rfl b hx cs (hA.out w) v hv hn (framed h ha)
theorem lag {n : Nat} [hA : AggC P ty n] (hB : Hid (Bxs w0 w l r F)) (hx : a.eval x = .pointer (some ⟨b, o, none⟩)) [hm : InL b cs l] (hg : Region.wanted (Oper.mk d (.load ty x) t2 pos af (some g)) (yielded ops a.tmps) = true) (h : wpList P ops Q rest a' w)
  (hms:(cs.drop o).take n=new:=by first|exact Kx.whole (by rfl)|(simp<;>rfl)) (hn:new.length=n:=by rfl)
  (ha:a.put d (.agg new.toArray)=a':=by simp only [Act.put,List.setIfInBounds_toArray,List.set_cons_succ,List.set_cons_zero]<;>rfl):wpList P ops Q (Oper.mk d (.load ty x) t2 pos af (some g)::rest) a w :=
 zb4 hB _ _ rfl b hx cs n (hA.agg w) (hA.size w) new hms hn hg (framed h ha)
theorem log {ad : Addr} [hA : OneC P ty] (hB : Hid (Bxs w0 w l r F)) (hx : a.eval x = .pointer (some ad)) (hc : w0.cell? ad = some v) (hn : Region.wanted (Oper.mk d (.load ty x) t2 pos af (some g)) (yielded ops a.tmps) = true) (h : wpList P ops Q rest a' w)
  (ha:a.put d v=a':=by simp only [Act.put,List.setIfInBounds_toArray,List.set_cons_succ,List.set_cons_zero]<;>rfl):wpList P ops Q (Oper.mk d (.load ty x) t2 pos af (some g)::rest) a w :=
 zcl hB _ _ rfl ad hx (hA.out w) v hc hn (framed h ha)
theorem stwa (hB : Hid (Bxs w0 w l r F)) (hx : a.eval x = .pointer (some ⟨b, 0, none⟩)) (hy : a.eval y = .agg cs.toArray) [hs : SetL b cs l old l'] (h : ∀ w', Hid (Bxs w0 w' l' r F) → wpList P ops Q rest a w')
  (hl:cs.length=old.length:=by rfl) (hS:(sizeOf ty).run P w = .ok cs.length w:=by simp<;>rfl) (h1:cs.all (·.oneCell')=true:=by rfl):wpList P ops Q (Oper.mk none (.store ty x y) t2 pos af none::rest) a w :=
 zay hB rfl rfl _ _ _ rfl b hx cs hy old hl hS h1 h
theorem sta (hB : Hid (Bxs w0 w l r F)) (hx : a.eval x = .pointer (some ⟨b, o, none⟩)) (hy : a.eval y = .agg cs.toArray) [hs : SetL b new l old l'] (h : ∀ w', Hid (Bxs w0 w' l' r F) → wpList P ops Q rest a w')
  (hnew:splice old o cs=new:=by simp [Kx.splice]<;>rfl) (hl:o+cs.length≤old.length:=by simp) (hS:(sizeOf ty).run P w = .ok cs.length w:=by simp<;>rfl) (h1:cs.all (·.oneCell')=true:=by rfl):wpList P ops Q (Oper.mk none (.store ty x y) t2 pos af none::rest) a w :=
 za0 hB rfl rfl _ _ _ rfl b hx cs hy old new hnew hl hS h1 h
theorem stc (hB : Hid (Bxs w0 w l r F)) (hx : a.eval x = .pointer (some ⟨b, o, none⟩)) (h1 : v.oneCell' = true) [hs : SetL b new l old l'] (h : ∀ w', Hid (Bxs w0 w' l' r F) → wpList P ops Q rest a w')
  (hnew:old.set o v=new:=by simp<;>rfl) (hl:o < old.length:=by simp) (hS:(sizeOf ty).run P w = .ok 1 w:=by simp<;>rfl):wpList P ops Q (Oper.mk none (.store ty x (.const v)) t2 pos af none::rest) a w :=
 zcg hB rfl rfl _ _ _ rfl b hx h1 old new hnew hl hS h
theorem stt {k : Nat} (hB : Hid (Bxs w0 w l r F)) (hx : a.eval x = .pointer (some ⟨b, o, none⟩)) (hy : a.tmps[k]? = some v) (h1 : v.oneCell' = true) [hs : SetL b new l old l'] (h : ∀ w', Hid (Bxs w0 w' l' r F) → wpList P ops Q rest a w')
  (hnew:old.set o v=new:=by simp<;>rfl) (hl:o < old.length:=by simp) (hS:(sizeOf ty).run P w = .ok 1 w:=by simp<;>rfl):wpList P ops Q (Oper.mk none (.store ty x (.tmp k)) t2 pos af none::rest) a w :=
 zaz hB rfl rfl _ _ _ rfl b hx v hy h1 old new hnew hl hS h
theorem st1 (hB : Hid (Bxs w0 w l r F)) (hx : a.eval x = .pointer (some ⟨b, o, none⟩)) (hy : a.eval y = v) (h1 : v.oneCell' = true) [hs : SetL b new l old l'] (h : ∀ w', Hid (Bxs w0 w' l' r F) → wpList P ops Q rest a w')
  (hnew:old.set o v=new:=by simp<;>rfl) (hl:o < old.length:=by simp) (hS:(sizeOf ty).run P w = .ok 1 w:=by simp<;>rfl):wpList P ops Q (Oper.mk none (.store ty x y) t2 pos af none::rest) a w :=
 zaw hB rfl rfl _ _ _ rfl b hx v hy h1 old new hnew hl hS h
end
section
variable {P:Program} {ops:Array Oper} {md:Region.Mode} {Q:Exit→Act→World→Prop} {C:World→Prop} {D:Nat→Bool} {i n:Nat} {oi:Oper} {v:Value} {listed:Array Bool} {a a':Act}
theorem tk (i : Nat) {oi : Oper} (hi : ops[i]? = some oi) (h : anyW P md ops Q C D n (listed.setIfInBounds i true) (At a' C))
  (hC:zdc C:=by first|exact za7|exact zb7|assumption) (hs:Region.noSelect ops=true:=by kernel_rfl) (hf:Region.free md ops listed i=true:=by kernel_rfl) (hr:(Region.ready md ops listed).contains i=true:=by kernel_rfl)
  (hwt:waits md ops D i=true:=by kernel_rfl) (hn:Region.wanted oi (yielded ops a.tmps)=true:=by kernel_rfl) (hy:∀w,C w→(execOp a.eval oi).run P w = .ok (.value v) w:=by (intro w hC;go_simp;try with_reducible rfl))
  (ha:a.put oi.dst v=a':=by (go_simp;try with_reducible rfl)) (hQ:∀c a w,Q (.panic c) (a.put oi.dst v) w→Q (.panic c) a w:=by exact fun _ _ _ h=>h):anyW P md ops Q C D (n+1) listed (At a C) :=
 zcw hC hi hs hf hr hQ hwt hn hy ha h
theorem sk (i : Nat) {oi : Oper} (hi : ops[i]? = some oi) (h : anyW P md ops Q C D n (listed.setIfInBounds i true) (At a' C))
  (hC:zdc C:=by first|exact za7|exact zb7|assumption) (hs:Region.noSelect ops=true:=by kernel_rfl) (hf:Region.free md ops listed i=true:=by kernel_rfl) (hr:(Region.ready md ops listed).contains i=true:=by kernel_rfl)
  (hwt:waits md ops D i=true:=by kernel_rfl) (hn:Region.wanted oi (yielded ops a.tmps)=false:=by kernel_rfl)
  (ha:a.put oi.dst undef=a':=by (go_simp;try with_reducible rfl)) (hQ:∀c a w,Q (.panic c) (a.put oi.dst undef) w→Q (.panic c) a w:=by exact fun _ _ _ h=>h):anyW P md ops Q C D (n+1) listed (At a C) :=
 zr3 hC hi hs hf hr hQ hwt hn ha h
end
section
variable {P:Program} {ops:Array Oper} {md:Region.Mode} {Q:Exit→Act→World→Prop} {D:Nat→Bool} {n:Nat} {v:Value} {listed:Array Bool} {a a':Act}
variable {w0:World} {l:List (Nat×List Value)} {r:List Rw} {F:Fz} {ty t2:TypeId} {x:Operand} {pos:String} {af:Array Edge} {d:Option Tmp} {b o:Nat} {cs new:List Value} {g:Option (Nat×Bool)}
theorem xl1 (i : Nat) (hi : ops[i]? = some (Oper.mk d (.load ty x) t2 pos af g)) [hA : OneC P ty] (hx : a.eval x = .pointer (some ⟨b, o, none⟩)) [hm : InL b cs l] (hv : cs[o]? = some v)
  (h:anyW P md ops Q (fun w'=>Bxs w0 w' l r F) D n (listed.setIfInBounds i true) (At a' (fun w'=>Bxs w0 w' l r F)))
  (hs:Region.noSelect ops=true:=by kernel_rfl) (hf:Region.free md ops listed i=true:=by kernel_rfl) (hr:(Region.ready md ops listed).contains i=true:=by kernel_rfl)
  (hwt:waits md ops D i=true:=by kernel_rfl) (hn:Region.wanted (Oper.mk d (.load ty x) t2 pos af g) (yielded ops a.tmps)=true:=by kernel_rfl)
  (ha:a.put d v=a':=by (go_simp;try with_reducible rfl)) (hQ:∀c a w,Q (.panic c) (a.put d v) w→Q (.panic c) a w:=by exact fun _ _ _ h=>h):anyW P md ops Q (fun w'=>Bxs w0 w' l r F) D (n+1) listed (At a (fun w'=>Bxs w0 w' l r F)) :=
 zcw (i:=i) za7 hi hs hf hr hQ hwt hn (fun w hw=>zbg hw b o hx cs hm (hA.out w) hv) ha h
theorem xlo (i : Nat) {ad : Addr} (hi : ops[i]? = some (Oper.mk d (.load ty x) t2 pos af g)) [hA : OneC P ty] (hx : a.eval x = .pointer (some ad)) (hv : w0.cell? ad = some v)
  (h:anyW P md ops Q (fun w'=>Bxs w0 w' l r F) D n (listed.setIfInBounds i true) (At a' (fun w'=>Bxs w0 w' l r F)))
  (hs:Region.noSelect ops=true:=by kernel_rfl) (hf:Region.free md ops listed i=true:=by kernel_rfl) (hr:(Region.ready md ops listed).contains i=true:=by kernel_rfl)
  (hwt:waits md ops D i=true:=by kernel_rfl) (hn:Region.wanted (Oper.mk d (.load ty x) t2 pos af g) (yielded ops a.tmps)=true:=by kernel_rfl)
  (ha:a.put d v=a':=by (go_simp;try with_reducible rfl)) (hQ:∀c a w,Q (.panic c) (a.put d v) w→Q (.panic c) a w:=by exact fun _ _ _ h=>h):anyW P md ops Q (fun w'=>Bxs w0 w' l r F) D (n+1) listed (At a (fun w'=>Bxs w0 w' l r F)) :=
 zcw (i:=i) za7 hi hs hf hr hQ hwt hn (fun w hw=>zmc hw ad hx (hA.out w) hv) ha h
theorem xla (i : Nat) {m : Nat} (hi : ops[i]? = some (Oper.mk d (.load ty x) t2 pos af g)) [hA : AggC P ty m] (hx : a.eval x = .pointer (some ⟨b, o, none⟩)) [hm : InL b cs l]
  (h:anyW P md ops Q (fun w'=>Bxs w0 w' l r F) D n (listed.setIfInBounds i true) (At a' (fun w'=>Bxs w0 w' l r F)))
  (hms:(cs.drop o).take m=new:=by first|exact Kx.whole (by rfl)|(simp<;>rfl)) (hk:new.length=m:=by rfl)
  (hs:Region.noSelect ops=true:=by kernel_rfl) (hf:Region.free md ops listed i=true:=by kernel_rfl) (hr:(Region.ready md ops listed).contains i=true:=by kernel_rfl)
  (hwt:waits md ops D i=true:=by kernel_rfl) (hn:Region.wanted (Oper.mk d (.load ty x) t2 pos af g) (yielded ops a.tmps)=true:=by kernel_rfl)
  (ha:a.put d (.agg new.toArray)=a':=by (go_simp;try with_reducible rfl)) (hQ:∀c a w,Q (.panic c) (a.put d (.agg new.toArray)) w→Q (.panic c) a w:=by exact fun _ _ _ h=>h):anyW P md ops Q (fun w'=>Bxs w0 w' l r F) D (n+1) listed (At a (fun w'=>Bxs w0 w' l r F)) :=
 zcw (i:=i) za7 hi hs hf hr hQ hwt hn (fun w hw=>zch hw b o hx cs hm m (hA.agg w) (hA.size w) new hms hk rfl) ha h
end
end Go.Proofs.YtponpgcpmlcdpaaGreatDoor.Kx
namespace Go.Proofs.YtponpgcpmlcdpaaGreatDoor
open Go.RowKit Go.Shelf Km
theorem zhz {P : Program} {ops : Array Oper} {rest : List Oper} {op : Oper} {a : Act} {w : World} {Q : Exit → Act → World → Prop} (hgd : op.guard = none) (ty : TypeId) (x : Operand) (ho : op.op = .load ty x)
  (ad:Addr) (hx:a.eval x = .pointer (some ad)) (cs:List Value) (d:TypeDesc) (hc:∀j v,cs[j]? = some v→w.cell? (ad.add j)=some v) (hu:P.underlying ty=some d) (hd:d.isRow=true) (hi:(P.info? ty).map (·.size)=some cs.length)
  (h:wpList P ops Q rest (a.put op.dst (.agg cs.toArray)) w):wpList P ops Q (op::rest) a w :=
 wpList_plain hgd fun _ hK=>by
  have hl:(loadCells ad cs.length).run P w = .ok cs.toArray w:=run_loadCells_list (P:=P) w ad cs hc
  have hv:(loadVar ty ad).run P w = .ok (.agg cs.toArray) w:=by
   cases hq:P.info? ty with
   |none=>simp [hq] at hi
   | some i =>
     have hs:i.size=cs.length:=by simpa [hq] using hi
     have hagg:(isAgg ty).run P w = .ok true w:=by
      unfold isAgg
      rw [Sem.run_bind,run_underlying hu w]
      cases d<;>simp_all
     simp [loadVar,Sem.run_bind,hagg,sizeOf,typeInfo,hq,hs,hl]
  unfold Oper.wp execOp
  simp only [ho,hx,Instr.loadAt,Instr.sureAddr,Sem.run_bind,Sem.run_pure,Result.andThen_ok,hv]
  exact hK _ _ h
end Go.Proofs.YtponpgcpmlcdpaaGreatDoor
namespace Go.Proofs.YtponpgcpmlcdpaaGreatDoor
open Go.RowKit Go.Shelf Km Kx
theorem Kx.Bxs.callRow {w0 w w':World} {l:List (Nat×List Value)} {r:List Rw} {F:Fz} (h:Bxs w0 w l r F) (hb:Below w.heap.size w w') {A:Option Addr} {n cap k:Nat} {e:TypeId} {xs:List Value} (hy:w'.ownsRow w.heap.size e k (.slice A n cap) n xs):Bxs w0 w' l (⟨A,cap,e,k,n,xs⟩::r) F:=by
 have h2:=h.call hb
 have hlt:∀g,(Value.slice A n cap).ownBlock=some g→w.heap.size≤g:=fun g hg=>(hy.lt g hg).1
 refine ⟨h2.below,h2.nodup,h2.each,fun x hx => ?_,List.pairwise_cons.2 ⟨fun x hx g e q => ?_,h2.apart⟩,fun q hq=>(h.stay q hq).to fun g g1 g2 g3=>⟨hb.block g g1,Nat.lt_of_lt_of_le g1 hb.size,g2,fun z hz=>by
  rcases List.mem_cons.1 hz with rfl|hz
  ·intro e;have:=hlt g e;omega
  ·exact g3 z hz⟩⟩
 ·rcases List.mem_cons.1 hx with rfl|hx
  ·exact ⟨World.ownsRow.mono hy h.size,fun p hp e=>by have:=(h.each p hp).2.1;have:=hlt _ e;omega⟩
  ·exact h2.rows x hx
 ·have h3:=hlt g e
  have h4:=((h.rows x hx).1.lt q).2
  omega
theorem Kx.Rw.own.stored {x : Rw} {w0 w : World} (h : x.own w0 w) {g : Nat} (hA : x.A = some ⟨g, 0, none⟩) (o : Nat) (cs : List Value) :
  ∃ys,(o+cs.length≤x.xs.length→ys=splice x.xs o cs)∧Rw.own ⟨x.A,x.cap,x.e,x.k,x.n,ys⟩ w0 (w.setCells g o cs)∧w.grownBy (w.setCells g o cs) (some g):=by
 obtain ⟨A,cap,e,k,n,xs⟩:=x
 dsimp only at hA
 subst hA
 induction cs generalizing w o xs with
 |nil=>exact ⟨xs,fun q=>by unfold splice;simp,h,World.grownBy.refl _ _⟩
 | cons u cs ih =>
   have h1:=World.ownsRow.stored h o u
   obtain ⟨ys,e1,e2,e3⟩:=ih (w:=w.setCell ⟨g,o,none⟩ u) (o+1) (xs.set o u) h1.1
   refine ⟨ys,fun q => ?_,e2,h1.2.trans e3⟩
   dsimp only at e1 q ⊢
   rw [List.length_cons] at q
   rw [e1 (by rw [List.length_set];omega)]
   unfold splice
   rw [List.take_set,List.drop_set_of_lt (by omega),List.length_cons,show o+1+cs.length=o+(cs.length+1) by omega,List.take_add_one,List.getElem?_eq_getElem (show o < xs.length by omega)]
   rw [List.set_append_right _ _ (by rw [List.length_take];omega),List.length_take,show o - min o xs.length=0 by omega]
   simp
theorem Kx.Rw.own.there {x:Rw} {w0 w:World} (h:x.own w0 w) {g:Nat} (hA:x.A=some ⟨g,0,none⟩) (o n:Nat) (hn:o+n≤x.xs.length):w.there g o n:=by
 obtain ⟨A,cap,e,k,m,xs⟩:=x
 dsimp only at hA hn
 subst hA
 intro j hj
 have hl:xs.length=m * k:=h.1
 have h2:=World.ownsRow.cellAt h (o+j) (by dsimp only;rw [←hl];omega)
 dsimp only at h2
 refine ⟨?_,World.ownsRow.frozenAt h (o+j)⟩
 rw [h2,List.getElem?_eq_getElem (by omega)];rfl
theorem zbx {P : Program} {w : World} {f : Operand → Value} {d : Option Tmp} {ty t2 : TypeId} {x : Operand} {pos : String} {af : Array Edge} {g : Option (Nat × Bool)} {v : Value} (ad : Addr) (hx : f x = .pointer (some ad))
  (hA:(isAgg ty).run P w = .ok false w) (hc:w.cell? ad=some v):(execOp f (Oper.mk d (.load ty x) t2 pos af g)).run P w = .ok (.value v) w:=by
 unfold execOp
 simp only [hx,Instr.loadAt,Instr.sureAddr,Sem.run_bind,Sem.run_pure,Result.andThen_ok,zbu w ad ty v hc (row_of hA)]
theorem zel {P : Program} {ops : Array Oper} {rest : List Oper} {op : Oper} {a : Act} {w : World} {Q : Exit → Act → World → Prop} (ty : TypeId) (x : Operand) (ho : op.op = .load ty x) (ad : Addr) (hx : a.eval x = .pointer (some ad)) (hA : (isAgg ty).run P w = .ok false w) (v' : Value) (hc : w.cell? ad = some v') (hn : Region.wanted op (yielded ops a.tmps) = true)
  (h:wpList P ops Q rest (a.put op.dst v') w):wpList P ops Q (op::rest) a w :=
 wpList_step fun K hK=>by
  simp only [hn,if_true]
  unfold Oper.wp execOp
  simp only [ho,hx,Instr.loadAt,Instr.sureAddr,Sem.run_bind,Sem.run_pure,Result.andThen_ok,zbu w ad ty v' hc (row_of hA)]
  exact hK _ _ h
theorem or_bit {m k:Nat} (hm:m < 18446744073709551616) (hk:k < 64):bits BinOp.or IntKind.u64 (m:Int) (IntKind.u64.wrap (2 ^ k))=((m ||| 2 ^ k:Nat):Int):=by
 have e:((2:Int) ^ k)=((2 ^ k:Nat):Int):=by simp
 have hp:2 ^ k < 18446744073709551616:=by
  rw [show (18446744073709551616:Nat)=2 ^ 64 from rfl];exact Nat.pow_lt_pow_right (by decide) hk
 generalize 2 ^ k=q at *
 rw [e]
 have hw:IntKind.u64.wrap (q:Int)=(q:Int):=by rw [IntKind.wrap_u64];omega
 rw [hw,u64_or _ _ (by omega) (by omega) (by omega) (by omega)]
 simp
end Go.Proofs.YtponpgcpmlcdpaaGreatDoor
namespace Go.Proofs.YtponpgcpmlcdpaaGreatDoor.Kt
open Go.RowKit Km Kx
section
variable {α:Type} {f:α→List Value} {k:Nat}
def cat (f:α→List Value) (l:List α):List Value:=l.flatMap f
theorem zry:cat f []=[]:=rfl
theorem zee (a:α) (l:List α):cat f (a::l)=f a++cat f l:=rfl
theorem zrx (a:α):cat f [a]=f a:=by show f a++[]=f a;rw [List.append_nil]
theorem zit (a b:List α):cat f (a++b)=cat f a++cat f b:=List.flatMap_append
theorem cat_len (hf:∀a,(f a).length=k) (l:List α):(cat f l).length=l.length * k:=by
 induction l with
 |nil=>simp [cat]
 |cons a l ih=>rw [zee,List.length_append,hf,ih,List.length_cons,Nat.succ_mul];omega
theorem cat_drop (hf:∀a,(f a).length=k) (l:List α) (i:Nat):(cat f l).drop (i * k)=cat f (l.drop i):=by
 induction i generalizing l with
 |zero=>simp
 | succ i ih =>
   cases l with
   |nil=>simp [cat]
   |cons a l=>rw [Nat.succ_mul,Nat.add_comm,zee,List.drop_succ_cons,←ih,←List.drop_drop];congr 1;rw [←hf a,List.drop_left]
theorem zna (hf:∀a,(f a).length=k) {l:List α} {i:Nat} {a:α} (h:l[i]? = some a) {j:Nat} {u:Value} (hj:(f a)[j]? = some u):(cat f l)[i * k+j]? = some u:=by
 have h2:cat f (l.drop i)=f a++cat f (l.drop (i+1)):=by
  obtain ⟨hk,rfl⟩:=List.getElem?_eq_some_iff.1 h
  rw [List.drop_eq_getElem_cons hk];rfl
 rw [←List.getElem?_drop,cat_drop hf,h2,List.getElem?_append_left (List.getElem?_eq_some_iff.1 hj).1]
 exact hj
theorem cat_at (hf:∀a,(f a).length=k) (hk:0 < k) {l:List α} {j:Nat} {u:Value} (h:(cat f l)[j]? = some u):∃a,l[j / k]? = some a∧(f a)[j % k]? = some u:=by
 have hj:j < l.length * k:=by have:=(List.getElem?_eq_some_iff.1 h).1;rwa [cat_len hf] at this
 have hd:j / k < l.length:=(Nat.div_lt_iff_lt_mul hk).2 hj
 refine ⟨l[j / k],List.getElem?_eq_getElem hd,?_⟩
 have hm:j % k < k:=Nat.mod_lt _ hk
 obtain ⟨x,hx⟩ : ∃x,(f l[j / k])[j % k]? = some x:=⟨(f l[j / k])[j % k]'(by rw [hf];exact hm),List.getElem?_eq_getElem _⟩
 have h3:=zna hf (List.getElem?_eq_getElem hd) hx
 rw [Nat.div_add_mod' j k] at h3
 rw [h3] at h
 rw [hx,h]
theorem Rd.part {w:World} {B:Nat} {A:Option Addr} {l:List α} (hf:∀a,(f a).length=k) (hr:Rd w B A (cat f l)) {i:Nat} {a:α} (h:l[i]? = some a) (hk:0 < k):∃ad,A=some ad∧ad.block < B∧∀j u,(f a)[j]? = some u→w.cell? (ad.add (i * k+j))=some u:=by
 obtain ⟨u,hu⟩ : ∃u,(f a)[0]? = some u:=⟨(f a)[0]'(by rw [hf];exact hk),List.getElem?_eq_getElem _⟩
 obtain ⟨ad,e,hb,-⟩:=hr _ _ (zna hf h hu)
 refine ⟨ad,e,hb,fun j u hj => ?_⟩
 obtain ⟨ad',e',_,hc⟩:=hr _ _ (zna hf h hj)
 rw [e] at e'
 cases e'
 exact hc
end
end Go.Proofs.YtponpgcpmlcdpaaGreatDoor.Kt
namespace Go.Proofs.YtponpgcpmlcdpaaGreatDoor
open Go Go.RowKit Go.Shelf Km Kx
section
variable {P:Program} {ops:Array Oper} {md:Region.Mode} {Q:Exit→Act→World→Prop} {C:World→Prop} {D:Nat→Bool}
def AtW (P:Program) (md:Region.Mode) (ops:Array Oper) (Q:Exit→Act→World→Prop) (C:World→Prop) (D:Nat→Bool) (n:Nat) (listed:Array Bool) (S:Act→World→Prop) (i:Nat):Prop :=
 ∃S',Bears S'∧(D i=true∨∀a w,S' a w→C w)∧(∀a w,S a w→wpOp P ops Q i S' a w)∧anyW P md ops Q C D n (listed.setIfInBounds i true) S'
theorem AtW.call {α : Type} (y0 : α) (v : α → Value) (C' : α → World → Prop) {i : Nat} {oi : Oper} {listed : Array Bool} {a : Act} {n : Nat} {f : FuncId} {args : Array Value} (hb : ∀ y, zdc (C' y)) (hs : ∀ y w, C' y w → C w)
  (hi:ops[i]? = some oi) (hn:Region.wanted oi (yielded ops a.tmps)=true) (d:Nat) (hdst:oi.dst=some d) (hE:∀w,C w→(execOp a.eval oi).run P w = .ok (.enter f args) w)
  (hc:∀w,C w→Calls P f args w fun en w'=>∃y,en = .returned (v y)∧C' y w')
  (h:∀y,anyW P md ops Q (C' y) D n (listed.setIfInBounds i true) (At (a.put (some d) (v y)) (C' y))):AtW P md ops Q C D n listed (At a C) i :=
 ⟨fun a' w' => ∃ y, At (a.put (some d) (v y)) (C' y) a' w', fun _ _ _ ⟨y, q, q2⟩ hw => ⟨y, q, hb y _ _ q2 hw⟩, .inr fun _ _ ⟨y, _, q⟩ => hs y _ q, fun a' w k => by
   obtain ⟨rfl,k⟩:=k
   simp only [wpOp,hi,hn,if_true]
   refine .inl ?_
   unfold Oper.wp
   rw [hE w k]
   simp only [Oper.upon]
   refine (hc w k).mono ?_
   rintro en w'' ⟨y,rfl,hy⟩
   exact ⟨y,by rw [hdst],hy⟩,zet y0 fun y=>zg0 (hs y) (h y)⟩
theorem AtW.alloc {w0 : World} {l : List (Nat × List Value)} {r : List Rw} {F : Fz} {i : Nat} {oi : Oper} {listed : Array Bool} {a : Act} {n : Nat} (hi : ops[i]? = some oi) (hn : Region.wanted oi (yielded ops a.tmps) = true)
  (d:Nat) (hdst:oi.dst=some d) (ty:TypeId) (ho:oi.op = .alloc ty) (cs:List Value) (hz:∀w,(zeroValue ty).run P w = .ok (.agg cs.toArray) w)
  (h:∀b,anyW P md ops Q (fun w'=>Bxs w0 w' ((b,cs)::l) r F) D n (listed.setIfInBounds i true) (At (a.put (some d) (.pointer (some ⟨b,0,none⟩))) (fun w'=>Bxs w0 w' ((b,cs)::l) r F))) :
  AtW P md ops Q (fun w'=>Bxs w0 w' l r F) D n listed (At a (fun w'=>Bxs w0 w' l r F)) i :=
 ⟨fun a' w' => ∃ b : Nat, At (a.put (some d) (.pointer (some ⟨b, 0, none⟩))) (fun w' => Bxs w0 w' ((b, cs) :: l) r F) a' w', fun _ _ _ ⟨b, k, k2⟩ hb => ⟨b, k, k2.call hb⟩, .inr fun _ _ ⟨_, _, k⟩ => k.tail, fun a' w k => by
   obtain ⟨rfl,k⟩:=k
   simp only [wpOp,hi,hn,if_true]
   exact .inl (zom k ty ho _ cs (hz w) rfl fun b _ hw'=>⟨b,by rw [hdst],hw'⟩),zet 0 fun b=>zg0 (fun _ k=>k.tail) (h b)⟩
end
theorem Kx.Bxs.zmw {w0 w:World} {l:List (Nat×List Value)} {r:List Rw} {F G:Fz} {x:Rw} (h:Bxs w0 w l (x::r) F):New w0 w G x.A x.xs:=by
 obtain ⟨A,cap,e,k,n,xs⟩:=x
 exact h.newRow (A:=A)
theorem zrf (l : List Value) : ∀ (m : Nat) (z : Array Value), m + l.length ≤ z.size →
  ((l.zipIdx m).foldl (fun cs x=>cs.setIfInBounds (0+x.2) x.1) z).size=z.size∧∀i,((l.zipIdx m).foldl (fun cs x=>cs.setIfInBounds (0+x.2) x.1) z)[i]? = if m≤i∧i < m+l.length then l[i - m]? else z[i]?:=by
 induction l with
 |nil=>intro m z _;exact ⟨rfl,fun i=>by rw [if_neg (by rw [List.length_nil];omega)];rfl⟩
 | cons c l ih =>
   intro m z h
   rw [List.length_cons] at h
   obtain ⟨h1,h2⟩:=ih (m+1) (z.setIfInBounds (0+m) c) (by rw [Array.size_setIfInBounds];omega)
   rw [List.zipIdx_cons,List.foldl_cons]
   refine ⟨h1.trans (Array.size_setIfInBounds ..),fun i => ?_⟩
   rw [h2 i,List.length_cons]
   by_cases e:i=m
   ·subst e
    rw [if_neg (by omega),if_pos (by omega),Nat.zero_add,Array.getElem?_setIfInBounds_self_of_lt (by omega),Nat.sub_self];rfl
   ·by_cases h3:m+1≤i∧i < m+1+l.length
    ·rw [if_pos h3,if_pos (by omega),show i - m=i - (m+1)+1 by omega];rfl
    ·rw [if_neg h3,if_neg (by omega),Nat.zero_add,Array.getElem?_setIfInBounds_ne (Ne.symm e)]
theorem fill_one (l:List Value) (z:Array Value) (h:l.length=z.size):(l.zipIdx.foldl (fun cs x=>cs.setIfInBounds (0+x.2) x.1) z)=l.toArray:=by
 obtain ⟨h1,h2⟩:=zrf l 0 z (by omega)
 apply Array.ext_getElem?
 intro i
 rw [h2 i]
 by_cases hi:i < l.length
 ·rw [if_pos (by omega)];simp
 ·rw [if_neg (by omega),Array.getElem?_eq_none (by omega),Array.getElem?_eq_none (by simp;omega)]
theorem zf2 {P:Program} {ops:Array Oper} {rest:List Oper} {a:Act} {w:World} {Q:Exit→Act→World→Prop} {d:Option Tmp} {t ty:TypeId} {x:Operand} {pos:String} {af:Array Edge} (h:wpList P ops Q (Oper.mk d (.buildSlice t 1 #[(0,x)]) ty pos af none::rest) a w):wpList P ops Q (Oper.mk d (.buildSlice t 1 #[(0,x)]) ty pos af none::rest) a w:=h
theorem zos {P : Program} (w : World) (t e : TypeId) (z : Value) (cs : List Value) (hu : P.underlying t = some (.slice e)) (hS : (sizeOf e).run P w = .ok cs.length w) (hZ : (zeroValue e).run P w = .ok z w) (h0 : 0 < cs.length) (h1 : cs.length ≤ 65536) :
  (Instr.buildSlice t 1 #[(0,.agg cs.toArray)]).run P w = .ok (.slice (some ⟨w.heap.size,0,none⟩) 1 1) (w.alloc (.cells cs.toArray e)):=by
 have hf:∀Z:Array Value,Z.size=cs.length→Instr.fill (fun i=>some (i * cs.length,cs.length)) Z [(0,.agg cs.toArray)]=some cs.toArray:=fun Z hZ=>by
  have h5:=fill_one cs Z hZ.symm
  have h6:(Value.agg cs.toArray).cells=cs.toArray:=rfl
  unfold Instr.fill
  simp only [Nat.zero_mul,h6,List.size_toArray,ne_eq,not_true_eq_false,Bool.false_eq_true,hZ,Nat.zero_add,Nat.lt_irrefl,gt_iff_lt,decide_false,Bool.or_self,if_false]
  unfold Instr.fill
  simp only [Nat.zero_add] at h5
  simpa using h5
 have h2:¬ 1 * cs.length > 2 ^ 24:=by omega
 have h3:¬ 1 * cs.length=0:=by omega
 have h4:=hf ((Array.range (1 * cs.length)).map (z.cells[· % z.cells.size]!)) (by simp)
 simp only [Instr.buildSlice,Sem.run_bind,run_underlying hu,Result.andThen_ok,hS,h2,h3,if_false,hZ,Sem.run_pure,h4,newRow]
 rfl
section
variable {P:Program} {ops:Array Oper} {rest:List Oper} {op:Oper} {a:Act} {w w0:World} {l:List (Nat×List Value)} {r:List Rw} {F:Fz} {Q:Exit→Act→World→Prop}
theorem zpq (hgd : op.guard = none) (t e : TypeId) (x : Operand) (ho : op.op = .buildSlice t 1 #[(0, x)]) (cs : List Value) (hx : a.eval x = .agg cs.toArray) (z : Value) (hu : P.underlying t = some (.slice e)) (hS : (sizeOf e).run P w = .ok cs.length w) (hZ : (zeroValue e).run P w = .ok z w) (h0 : 0 < cs.length) (h1 : cs.length ≤ 65536)
  (h:wpList P ops Q rest (a.put op.dst (.slice (some ⟨w.heap.size,0,none⟩) 1 1)) (w.alloc (.cells cs.toArray e))):wpList P ops Q (op::rest) a w :=
 wpList_plain hgd fun K hK=>by
  unfold Oper.wp execOp
  simp only [ho,List.map_toArray,List.map_cons,List.map_nil,hx,Sem.run_bind,zos w t e z cs hu hS hZ h0 h1,Result.andThen_ok,Sem.run_pure]
  exact hK _ _ h
theorem zdr (hB : Hid (Bxs w0 w l r F)) (hgd : op.guard = none) (t e : TypeId) (x : Operand) (ho : op.op = .buildSlice t 1 #[(0, x)]) (k : Nat) (cs : List Value) (hx : a.eval x = .agg cs.toArray) (hk : cs.length = k) (z : Value) (hu : P.underlying t = some (.slice e)) (hS : (sizeOf e).run P w = .ok k w) (hZ : (zeroValue e).run P w = .ok z w) (h0 : 0 < k) (h1 : k ≤ 65536)
  (h:∀g w',Hid (Bxs w0 w' ((g,cs)::l) r F)→wpList P ops Q rest (a.put op.dst (.slice (some ⟨g,0,none⟩) 1 1)) w'):wpList P ops Q (op::rest) a w:=by
 subst hk
 exact zpq hgd t e x ho cs hx z hu hS hZ h0 h1 (h _ _ (Lib.hid (hB.out.alloc cs e)))
end
def Cu (w0:World) (b k:Nat) (l:List (Nat×List Value)) (r:List Rw) (F:Fz):World→Prop:=fun w'=>∃cs:List Value,cs.length=k∧Bxs w0 w' ((b,cs)::l) r F
theorem zb7 {w0:World} {b k:Nat} {l:List (Nat×List Value)} {r:List Rw} {F:Fz}:zdc (Cu w0 b k l r F):=fun _ _ ⟨cs,e,h⟩ hb=>⟨cs,e,h.call hb⟩
section
variable {P:Program} {ops:Array Oper} {md:Region.Mode} {Q:Exit→Act→World→Prop} {D:Nat→Bool} {w0:World} {l:List (Nat×List Value)} {r:List Rw} {F:Fz} {i:Nat} {oi:Oper} {listed:Array Bool} {a:Act} {n:Nat}
end
end Go.Proofs.YtponpgcpmlcdpaaGreatDoor
namespace Go.Proofs.YtponpgcpmlcdpaaGreatDoor.Kc
open Go.RowKit Go.Shelf Go.ChangeShapes Go.WideShapes Go.ChangeAt
def in64 (x:Int):Prop := -9223372036854775808≤x∧x≤9223372036854775807
def i64s (zs:List Int):List Value:=zs.map (Value.int .i64)
structure Cf where
 f:Int
 deciders:Int
 targets:Int
 routers:Int
 observers:Int
 ta:Option Addr
 tn:Nat
 tc:Nat
 every:Int
 wait:Int
 rise:Int
 fall:Int
 fresh:Int
 l:Int
 m:Int
 dwell:Int
 d:Int
 w:Int
 b:Int
 hit:Int
 suppress:Int
 reuse:Int
 half:Int
 first:Int
 step:Int
 stepTime:Int
 s:Int
 cap:Int
 span:Int
 room:Int
 tries:Int
 retry:Int
def cf (c:Cf):List Value:=[.int .i64 c.f,.int .i64 c.deciders,.int .i64 c.targets,.int .i64 c.routers,.int .i64 c.observers,.slice c.ta c.tn c.tc,
 .int .i64 c.every,.int .i64 c.wait,.int .i64 c.rise,.int .i64 c.fall,.int .i64 c.fresh,.int .i64 c.l,.int .i64 c.m,.int .i64 c.dwell,.int .i64 c.d,.int .i64 c.w,
 .int .i64 c.b,.int .i64 c.hit,.int .i64 c.suppress,.int .i64 c.reuse,.int .i64 c.half,.int .i64 c.first,.int .i64 c.step,.int .i64 c.stepTime,.int .i64 c.s,.int .i64 c.cap,
 .int .i64 c.span,.int .i64 c.room,.int .i64 c.tries,.int .i64 c.retry]
structure CfAt (W:World) (c:Cf) (xs:List Int):Prop where
 f:in64 c.f
 deciders:in64 c.deciders
 targets:in64 c.targets
 routers:in64 c.routers
 observers:in64 c.observers
 every:in64 c.every
 wait:in64 c.wait
 rise:in64 c.rise
 fall:in64 c.fall
 fresh:in64 c.fresh
 l:in64 c.l
 m:in64 c.m
 dwell:in64 c.dwell
 d:in64 c.d
 w:in64 c.w
 b:in64 c.b
 hit:in64 c.hit
 suppress:in64 c.suppress
 reuse:in64 c.reuse
 half:in64 c.half
 first:in64 c.first
 step:in64 c.step
 stepTime:in64 c.stepTime
 s:in64 c.s
 cap:in64 c.cap
 span:in64 c.span
 room:in64 c.room
 tries:in64 c.tries
 retry:in64 c.retry
 len:xs.length=c.tn
 le:c.tn≤c.tc
 max:c.tc≤maxLen
 fits:∀n∈xs,in64 n
 rd:Rd W W.heap.size c.ta (i64s xs)
end Go.Proofs.YtponpgcpmlcdpaaGreatDoor.Kc
