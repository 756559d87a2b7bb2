import Derived.RangeFuncNested
import Derived.RangeFuncBound
import Derived.RangeFuncCalls
import Derived.RangeFuncLeaves
import Derived.RangeFuncBox
import Derived.Shelf.Abstract
import Derived.Shelf.RegionOpen
import Derived.WalkKit
import Derived.OwnWalkIn
import Derived.TacticsInMore
import Derived.LoopNIn
import Derived.LoopIn
import Derived.Maps.AppendAt
import Derived.Deep.AppendLies
import Derived.Deep.Draws
import Derived.Laws.OwnMore
import Derived.Laws.AppendOwnNone
import Derived.Lib.Hide
import Derived.Test.YtponpgcpmlcdpaaGreatDoorProg
import Derived.OwnWalk
import Derived.Deep.LoopGhost
import Derived.Deep.QuietTactic
import Derived.BigQuiet
import Derived.WalkSpells
import Derived.WalkLawsBesides
import Derived.Orders
import Derived.Below
namespace Go.Proofs.YtponpgcpmlcdpaaGreatDoor
open Go.RowKit
def Rd (w:World) (B:Nat) (A:Option Addr) (xs:List Value):Prop :=
 ∀j u,xs[j]? = some u→∃ad,A=some ad∧ad.block < B∧w.cell? (ad.add j)=some u
theorem zb1 (a:Addr) (n:Nat):(a.add n).block=a.block:=by unfold Addr.add;split<;>rfl
theorem addr_add_add (a:Addr) (i j:Nat):(a.add i).add j=a.add (i+j):=by
 unfold Addr.add
 by_cases hi:i=0<;>by_cases hj:j=0<;>simp [hi,hj,Nat.add_assoc]
section
variable {w w':World} {B B':Nat} {A:Option Addr} {xs:List Value}
theorem Rd.nil (w:World) (B:Nat) (A:Option Addr):Rd w B A []:=fun j u h=>by simp at h
theorem Rd.get (h:Rd w B A xs) {k:Nat} (hk:k < xs.length):∃ad,A=some ad∧ad.block < B∧w.cell? (ad.add k)=some xs[k] :=
 h k _ (List.getElem?_eq_getElem hk)
theorem Rd.keep (h:Rd w B A xs) (hk:∀p:Addr,p.block < B→w'.cell? p=w.cell? p):Rd w' B A xs:=fun j u hj=>by
 obtain ⟨ad,e,hb,hc⟩:=h j u hj
 exact ⟨ad,e,hb,(hk _ (by rw [zb1];exact hb)).trans hc⟩
theorem Rd.more (h:Rd w B A xs) (hB:B≤B'):Rd w B' A xs:=fun j u hj=>by
 obtain ⟨ad,e,hb,hc⟩:=h j u hj
 exact ⟨ad,e,by omega,hc⟩
theorem Rd.below (h:Rd w B A xs) (hb:Below B w w'):Rd w' B A xs:=h.keep fun _ hp=>hb.cell hp
theorem Rd.drew (h:Rd w B A xs):Rd w.drew B A xs:=h
theorem Rd.drewN (h:Rd w B A xs) (k:Nat):Rd (w.drewN k) B A xs:=h
theorem Rd.alloc (h:Rd w B A xs) (hB:B≤w.heap.size) (o:Obj):Rd (w.alloc o) B A xs:=h.keep fun p hp=>World.cell?_alloc_lt w o p (by omega)
theorem Rd.grown (h:Rd w B A xs) {row:Option Nat} (hg:w.grownBy w' row) (hB:B≤w.heap.size) (hr:∀g,row=some g→B≤g):Rd w' B A xs :=
 h.keep fun p hp=>World.cell?_of_block (hg.block p.block (by omega) (fun e=>by have:=hr _ e.symm;omega))
theorem Rd.cut (h:Rd w B A xs) {k cap:Nat} (hc:xs.length≤cap):Rd w B (if cap=k then A else A.map (·.add k)) (xs.drop k):=fun j u hj=>by
 rw [List.getElem?_drop] at hj
 obtain ⟨ad,rfl,hb,hcell⟩:=h _ _ hj
 have hlt:k+j < xs.length:=by
  rcases Nat.lt_or_ge (k+j) xs.length with h1|h1
  ·exact h1
  ·rw [List.getElem?_eq_none h1] at hj;cases hj
 rw [if_neg (by omega)]
 exact ⟨ad.add k,rfl,by rw [zb1];exact hb,by rw [addr_add_add];exact hcell⟩
theorem Rd.take (h:Rd w B A xs) (k:Nat):Rd w B A (xs.take k):=fun j u hj=>by
 rw [List.getElem?_take] at hj
 split at hj
 ·exact h j u hj
 ·cases hj
theorem Rd.zqs {base:Nat} {e:TypeId} {n c:Nat} (h:w.ownsRow base e 1 (.slice A n c) n xs):Rd w w.heap.size A xs:=fun j u hj=>by
 have hl:=h.1
 have hlt:j < xs.length:=by
  rcases Nat.lt_or_ge j xs.length with h1|h1
  ·exact h1
  ·rw [List.getElem?_eq_none h1] at hj;cases hj
 obtain ⟨g,cap,hv,_,hg⟩:=h.form (by omega)
 have hA:A=some ⟨g,0,none⟩:=by injection hv
 subst hA
 exact ⟨_,rfl,hg,h.cells (g:=g) rfl j u hj⟩
end
def cutA (A:Option Addr) (k cap:Nat):Option Addr:=if cap=k then A else A.map (·.add k)
theorem Rd.cutA {w:World} {B:Nat} {A:Option Addr} {xs:List Value} (h:Rd w B A xs) {k cap:Nat} (hc:xs.length≤cap):Rd w B (cutA A k cap) (xs.drop k):=h.cut hc
theorem zh4 {P : Program} {t e : TypeId} (ht : P.underlying t = some (.slice e)) (he : ∀ w, (sizeOf e).run P w = .ok 1 w) (A : Option Addr) (n cap h : Nat) (hh : h ≤ cap) (w : World) :
  (Instr.slice t (.slice A n cap) none (some (.int .i64 (h:Int))) none).run P w = .ok (.slice (Go.Proofs.YtponpgcpmlcdpaaGreatDoor.cutA A 0 cap) h cap) w:=by
 have he':P.elem t=e:=by simp [Program.elem,ht]
 rw [run_slice_h (P:=P) w t A n cap (by rw [he'];exact ht) .i64 (h:Int) (by omega) (by omega),he',he]
 unfold Go.Proofs.YtponpgcpmlcdpaaGreatDoor.cutA
 simp [Result.andThen,sliced]
theorem zbo {P:Program} {e:TypeId} {i:TypeInfo} (hi:P.info? e=some i) (hs:i.size=1) (w:World):(sizeOf e).run P w = .ok 1 w:=by
 simp [sizeOf,typeInfo,hi,hs]
theorem zh3 {P : Program} {t e : TypeId} (ht : P.underlying t = some (.slice e)) (he : ∀ w, (sizeOf e).run P w = .ok 1 w) (A : Option Addr) (n cap k : Nat) (hk : k ≤ n) (w : World) :
  (Instr.slice t (.slice A n cap) (some (.int .i64 (k:Int))) none none).run P w = .ok (.slice (Go.Proofs.YtponpgcpmlcdpaaGreatDoor.cutA A k cap) (n - k) (cap - k)) w:=by
 have he':P.elem t=e:=by simp [Program.elem,ht]
 rw [run_slice_l (P:=P) w t A n cap (by rw [he'];exact ht) .i64 (k:Int) (by omega) (by omega),he',he]
 unfold Go.Proofs.YtponpgcpmlcdpaaGreatDoor.cutA
 simp [Result.andThen,sliced]
theorem zgs {P : Program} {t e : TypeId} (ht : P.underlying t = some (.slice e)) (he : ∀ w, (sizeOf e).run P w = .ok 1 w) (A : Option Addr) (n cap k h : Nat) (hk : k ≤ h) (hh : h ≤ cap) (w : World) :
  (Instr.slice t (.slice A n cap) (some (.int .i64 (k:Int))) (some (.int .i64 (h:Int))) none).run P w = .ok (.slice (Go.Proofs.YtponpgcpmlcdpaaGreatDoor.cutA A k cap) (h - k) (cap - k)) w:=by
 have he':P.elem t=e:=by simp [Program.elem,ht]
 rw [run_slice_lh (P:=P) w t A n cap (by rw [he'];exact ht) .i64 .i64 (k:Int) (h:Int) (by omega) (by omega) (by omega),he',he]
 unfold Go.Proofs.YtponpgcpmlcdpaaGreatDoor.cutA
 simp [Result.andThen,sliced]
theorem zh5 {P : Program} (w : World) (base : Nat) (t ty e : TypeId) (i : TypeInfo) (z : Value) (bytes : Nat) (ht : P.underlying t = some (.slice e)) (hi : P.info? e = some i) (hz : i.zero = some z)
  (hsize:i.size=1) (hby:i.bytes=bytes) (hzs:z.cells.size=1)
  (v:Value) (n:Nat) (xs:List Value) (hown:w.ownsRow base e 1 v n xs)
  (B:Nat) (A:Option Addr) (m c:Nat) (news:List Value) (hm:news.length=m) (hr:Rd w B A news) (h1:∀u∈news,u.oneCell'=true)
  (h63:n+m≤maxLen) (hbytes:(n+m) * bytes≤140737488355328) (hbase:base≤w.heap.size) :
  ∃v' w',(Builtin.append_ #[t,t] ty #[v,.slice A m c]).run P w = .ok v' w'∧w'.ownsRow base e 1 v' (n+m) (xs++news)∧w.grownBy w' v.ownBlock ∧
   (v'.ownBlock=v.ownBlock∨v'.ownBlock=some w.heap.size):=by
 cases A with
 | none =>
   have hn:news=[]:=by
    cases news with
    |nil=>rfl
    |cons u l=>obtain ⟨ad,h,_⟩:=hr 0 u rfl;cases h
   subst hn
   obtain rfl:m=0:=by simpa using hm.symm
   refine ⟨v,w,?_,by simpa using hown,⟨rfl,rfl,rfl,Nat.le_refl _,fun _ _ _=>rfl⟩,.inl rfl⟩
   rcases hown.2 with ⟨rfl,rfl⟩|⟨g,cap,cur,rfl,_,_,hnc,_⟩
   ·simp [Builtin.append_,run_underlying ht,sizeOf,typeInfo,hi,Builtin.lenOf,Builtin.firstCells]
   ·simp [Builtin.append_,run_underlying ht,sizeOf,typeInfo,hi,Builtin.lenOf,Builtin.firstCells,hnc,storeCells]
 | some ad =>
   obtain ⟨v',w',hrun,h2,h3,_,h5⟩:=run_append_own_at (P:=P) w base t ty e i z 1 bytes ht hi hz hsize hby hzs (by decide) v n xs hown ad m c news (by omega)
    (fun j u hj=>by obtain ⟨ad',e',_,hc⟩:=hr j u hj;cases e';exact hc) h1 h63 hbytes hbase
   exact ⟨v',w',hrun,h2,h3,h5⟩
theorem zdd {P : Program} {w : World} {ops : Array Oper} {rest : List Oper} {o : Oper} {a : Act} {Q : Exit → Act → World → Prop} (hgd : o.guard = none) (s x : Operand) (t : TypeId)
  (ho:o.op = .call { callee:=.builtin .append,args := #[s,x],argTypes := #[t,t] })
  (base:Nat) (e:TypeId) (i:TypeInfo) (z:Value) (bytes:Nat) (ht:P.underlying t=some (.slice e)) (hi:P.info? e=some i) (hz:i.zero=some z)
  (hsize:i.size=1) (hby:i.bytes=bytes) (hzs:z.cells.size=1)
  (v:Value) (n:Nat) (xs:List Value) (hs:a.eval s=v) (hown:w.ownsRow base e 1 v n xs)
  (B:Nat) (A:Option Addr) (m c:Nat) (news:List Value) (hx:a.eval x = .slice A m c) (hm:news.length=m) (hr:Rd w B A news) (h1:∀u∈news,u.oneCell'=true)
  (h63:n+m≤maxLen) (hbytes:(n+m) * bytes≤140737488355328) (hbase:base≤w.heap.size)
  (h:∀v' w',w'.ownsRow base e 1 v' (n+m) (xs++news)→w.grownBy w' v.ownBlock→(v'.ownBlock=v.ownBlock∨v'.ownBlock=some w.heap.size)→wpList P ops Q rest (a.put o.dst v') w'):wpList P ops Q (o::rest) a w:=by
 refine wpList_plain hgd fun K hK => ?_
 obtain ⟨v',w',hrun,h2,h3,h4⟩:=zh5 (P:=P) w base t o.type e i z bytes ht hi hz hsize hby hzs v n xs hown B A m c news hm hr h1 h63 hbytes hbase
 unfold Oper.wp execOp
 simp only [ho,resolve,invoke,builtin,Sem.run_bind,Sem.run_pure,Result.andThen_ok,List.map_toArray,List.map_cons,List.map_nil,hs,hx,hrun]
 exact hK _ _ (h v' w' h2 h3 h4)
theorem below_app {base:Nat} {w0 w w':World} {e:TypeId} {v:Value} {n:Nat} {xs:List Value} (hb:Below base w0 w) (hown:w.ownsRow base e 1 v n xs) (hg:w.grownBy w' v.ownBlock) (hbase:base≤w.heap.size):Below base w0 w' :=
 hb.grown hg hbase (fun k hk=>(hown.lt k hk).1)
theorem zbs (k:IntKind) (xs:List Int):∀u∈xs.map (Value.int k),u.oneCell'=true:=by
 intro u hu
 obtain ⟨x,_,rfl⟩:=List.mem_map.1 hu
 rfl
theorem zqd {w : World} {B : Nat} {A : Option Addr} {k : IntKind} {xs : List Int} {n cap : Nat} (h : Rd w B A (xs.map (Value.int k))) (hm : xs.length ≤ cap) :
  Rd w B (cutA A 0 cap) ((xs.take n).map (Value.int k)):=by
 have h1:=h.cutA (k:=0) (cap:=cap) (by rw [List.length_map];exact hm)
 rw [List.drop_zero] at h1
 rw [List.map_take]
 exact h1.take n
theorem run_str {P : Program} (w : World) (src e dst : TypeId) (hs : P.underlying src = some (.slice e)) (he : P.underlying e = some (.int .u8)) (hd : P.underlying dst = some .string)
  (B:Nat) (A:Option Addr) (n c:Nat) (xs:List Int) (hn:xs.length=n) (hr:Rd w B A (xs.map (Value.int .u8))) :
  (convert src dst (.slice A n c)).run P w = .ok (.string (strOfNums xs)) w:=by
 cases A with
 | none =>
   have hx:xs=[]:=by
    cases xs with
    |nil=>rfl
    |cons u l=>obtain ⟨ad,h,_⟩:=hr 0 _ rfl;cases h
   subst hx
   rw [run_convert_bytes_nil w src e hs he n c dst hd]
   rfl
 | some ad =>
   have hl:=run_loadCells_list (P:=P) w ad (xs.map (Value.int .u8)) (fun j u hj=>by obtain ⟨ad',e',_,hc⟩:=hr j u hj;cases e';exact hc)
   rw [List.length_map,hn] at hl
   rw [run_convert_bytes_string w src dst e _ n c hs he hd,run_bytesToString w _ n c xs hl,foldl_push_bytes]
   simp [strOfNums,ByteArray.empty,ByteArray.emptyWithCapacity]
   rfl
def SeqM {α : Type} (F : Fence) (n : Nat) (P : Program) (g : Nat) (lb : Array Value) (encs : α → Array Value) (Mv Kp : World → World → Prop)
  (S Sp:List α→Prop) (N:Nat) (w:World):Prop :=
 ∀(l:Nat) (J Jx:List α→World→Prop) (W:World),Below w.heap.size w W →
  (∀s A B,J s A→Mv A B→J s B)→(∀s A B,Jx s A→Mv A B→Jx s B) →
  (∀ pre x A, J pre A → pre.length < N → YieldAt F (n - 1) P l (encs x) A fun e B =>
    (e = .returned (.bool true)∧J (pre++[x]) B∧Kp A B)∨(e = .returned (.bool false)∧Jx (pre++[x]) B)) →
  J [] W →
  CallsIn F n P g (#[.func (.yield l) #[] #[]]++lb) W fun e B=>(∃v,e = .returned v)∧((∃xs,S xs∧J xs B)∨(∃pre,Sp pre∧Jx pre B))
variable {F:Fence} {n:Nat} {P:Program}
theorem zfv {α : Type} {g : Operand} {ps : Array Tmp} {assign body : Code} {Q : Exit → Act → World → Prop} {a : Act} {w : World}
  (hro:F.round=none) (h1:1≤n) {gf:Nat} {lb:Array Value} (hg:a.eval g = .func (.func gf) #[] lb) (hFg:F.fn gf)
  (eg:∀args w,(callFunc gf args).run P w = .ok (.enter gf args) w)
  {encs:α→Array Value} {Mv Kp:World→World→Prop} {S Sp:List α→Prop} {N:Nat} {w0:World} (hseq:SeqM F (n - 1) P gf lb encs Mv Kp S Sp N w0)
  (hb0:Below w0.heap.size w0 w) (hps:∀x,(encs x).size=ps.size)
  (hM:∀A B,Mv A B→∀k o,w.heap.size≤k→A.heap[k]? = some o→o.isCells=false→B.heap[k]? = some o)
  (hKt:∀A B C,Kp A B→Kp B C→Kp A C)
  (hKb:∀(A:World) (k:Nat) (o o':Obj),w.heap.size≤k→A.heap[k]? = some o→o.isCells=false→Kp A (A.putObj k o'))
  (I:List α→World→Prop) (Ix:Code→List α→World→Prop) (hI:OwnFrom w.heap.size I) (hIx:∀c,OwnFrom w.heap.size (Ix c))
  (hIM:∀s A B,I s A→Mv A B→I s B) (hIxM:∀c s A B,Ix c s A→Mv A B→Ix c s B)
  (h0:I [] w) (a₁:α→Act)
  (hassign : ∀ (l : Nat) (x : α) (W : World) (K : Act → World → Prop), K (a₁ x) W →
    assign.wpIn (F.inRound l) (n - 1 - 1) P (Exit.then K (fun _ _ _=>False)) { tmps:=(ps.zip (encs x)).foldl (fun t (p,v)=>t.setIfInBounds p v) a.tmps,defers:=[] } W)
  (hbody:∀(l:Nat) (pre:List α) (x:α) (W:World),I pre W→pre.length < N→body.wpIn (F.inRound l) (n - 1 - 1) P (ownPostG w.heap.size Kp I Ix (pre++[x]) W) (a₁ x) W)
  (hdone:∀(D:Nat) (xs:List α) (W:World),w.heap.size≤D→S xs→I xs W→W.heap[D]? = some (.deferred (some []))→Q .normal { a with defers:={ target:=.collected D,args := #[] }::a.defers } W)
  (hstop:∀(D:Nat) (c:Code) (pre:List α) (W:World),w.heap.size≤D→Sp pre→Ix c pre W→W.heap[D]? = some (.deferred (some []))→c.wpIn F n P Q { a with defers:={ target:=.collected D,args := #[] }::a.defers } W) :
  (Code.rangeFunc g ps assign body).wpIn F n P Q a w:=by
 refine wpIn_rangeFunc fun fn hfn => ?_
 rw [hro]
 generalize hD:w.heap.size=D at *
 let R (st:LoopState) (pe:Option Code):Obj:=.loop { state:=st,pending:=pe,fn,tmps:=a.tmps,params:=ps,assign,body,defers:=D }
 let W1:World:=(w.alloc (.deferred (some []))).alloc (R .ready none)
 have sz:W1.heap.size=D+2:=by simp [W1,hD]
 have hR1:W1.heap[D+1]? = some (R .ready none):=by
  have h:=World.alloc_heap_new (w.alloc (.deferred (some []))) (R .ready none)
  rwa [World.size_alloc,hD] at h
 have hD1:W1.heap[D]? = some (.deferred (some [])):=by
  have h:=World.alloc_heap_new w (.deferred (some []))
  rw [hD] at h
  exact (Below.heap_alloc _ _ _ (by simp [hD])).trans h
 let J (s:List α) (W:World):Prop:=I s W∧W.heap[D+1]? = some (R .ready none)∧W.heap[D]? = some (.deferred (some []))
 let Jx (s:List α) (W:World):Prop:=∃c,Ix c s W∧W.heap[D+1]? = some (R .done (some c))∧W.heap[D]? = some (.deferred (some []))
 have hJM:∀s A B,J s A→Mv A B→J s B:=fun s A B h m =>
  ⟨hIM s A B h.1 m,hM A B m _ _ (by omega) h.2.1 rfl,hM A B m _ _ (Nat.le_refl _) h.2.2 rfl⟩
 have hJxM:∀s A B,Jx s A→Mv A B→Jx s B:=fun s A B ⟨c,h,h2,h3⟩ m =>
  ⟨c,hIxM c s A B h m,hM A B m _ _ (by omega) h2 rfl,hM A B m _ _ (Nat.le_refl _) h3 rfl⟩
 have hJ1:J [] W1:=⟨hI.alloc _ (hI.alloc _ h0),hR1,hD1⟩
 have hb1:Below w0.heap.size w0 W1:=hb0.trans ((((Below.refl _ w).alloc (Nat.le_refl _) _).alloc (by simp) _).mono hb0.size)
 have henter:=run_enterLoop_outer (P:=P) (w:=w) fn a.tmps ps assign body
 rw [hD] at henter
 refine ⟨D+1,[{ target:=.collected D,args := #[] }],W1,{ target:=.fn (.func gf) lb,args := #[.func (.yield (D+1)) #[] #[]] },W1,gf,
  #[.func (.yield (D+1)) #[] #[]]++lb,W1,henter,?_,?_,?_,fun _=>h1,?_⟩
 ·simp only [resolve,hg]
  simp [go_sem]
 ·intro f' hf'
  simp [Target.leads] at hf'
  subst hf'
  exact hFg
 ·simp [invoke,go_sem,eg]
 refine (hseq (D+1) J Jx W1 hb1 hJM hJxM ?_ hJ1).mono ?_
 ·
  rintro pre x W ⟨hi,hl,hk⟩ hlen
  have hlt:D+1 < W.heap.size:=(Array.getElem?_eq_some_iff.1 hl).1
  refine ⟨fn,_,assign,body,run_yield (P:=P) (args:=encs x) hl (hps x),roundIn_of_wpIn hfn (hassign _ x W _ ⟨_,run_beginRound hl rfl,?_⟩)⟩
  let W2:World:=W.putObj (D+1) (R .busy none)
  have hl2:W2.heap[D+1]? = some (R .busy none):=World.putObj_heap_same hlt
  have hk2:W2.heap[D]? = some (.deferred (some [])):=(World.putObj_heap_other (by omega)).trans hk
  have hK2:Kp W W2:=hKb _ _ _ _ (by omega) hl rfl
  refine wpIn_mono (hbody _ pre x W2 (hI.putObj _ hi (by omega) hl rfl) hlen) ?_
  have fin : ∀ (jump : Option Code) (W3 : World), KeepsFrom D W2 W3 →
    W3.heap[D+1]? = some (R .busy none) ∧
    (Instr.endRound (D+1) jump).run P W3 = .ok (.bool jump.isNone) (W3.putObj (D+1) (R (if jump.isNone then .ready else .done) jump)) ∧
    (W3.putObj (D+1) (R (if jump.isNone then .ready else .done) jump)).heap[D+1]? = some (R (if jump.isNone then .ready else .done) jump) ∧
    (W3.putObj (D+1) (R (if jump.isNone then .ready else .done) jump)).heap[D]? = some (.deferred (some [])):=fun jump W3 h3=>by
   have hl3:=h3.same _ _ (by omega) hl2 rfl
   exact ⟨hl3,run_endRound (P:=P) jump hl3,World.putObj_heap_same (Array.getElem?_eq_some_iff.1 hl3).1,
    (World.putObj_heap_other (by omega)).trans (h3.same _ _ (Nat.le_refl _) hk2 rfl)⟩
  intro e a3 W3 hp
  cases e with
  | normal =>
    obtain ⟨h3,hkp,hi3⟩:=hp
    obtain ⟨hl3,hr,hl4,hk4⟩:=fin none W3 h3
    exact ⟨_,_,hr,.inl ⟨rfl,⟨hI.putObj _ hi3 (by omega) hl3 rfl,hl4,hk4⟩,hKt _ _ _ (hKt _ _ _ hK2 hkp) (hKb _ _ _ _ (by omega) hl3 rfl)⟩⟩
  | ret =>
    obtain ⟨h3,hi3⟩:=hp
    obtain ⟨hl3,hr,hl4,hk4⟩:=fin (some .ret) W3 h3
    exact ⟨_,_,hr,.inr ⟨rfl,.ret,(hIx _).putObj _ hi3 (by omega) hl3 rfl,hl4,hk4⟩⟩
  | exit id =>
    obtain ⟨h3,hi3⟩:=hp
    obtain ⟨hl3,hr,hl4,hk4⟩:=fin (some (.exit id)) W3 h3
    exact ⟨_,_,hr,.inr ⟨rfl,.exit id,(hIx _).putObj _ hi3 (by omega) hl3 rfl,hl4,hk4⟩⟩
  | goto t =>
    obtain ⟨h3,hi3⟩:=hp
    obtain ⟨hl3,hr,hl4,hk4⟩:=fin (some (.goto t)) W3 h3
    exact ⟨_,_,hr,.inr ⟨rfl,.goto t,(hIx _).putObj _ hi3 (by omega) hl3 rfl,hl4,hk4⟩⟩
  |panic ch=>exact hp.elim
  |outgrown=>exact hp.elim
 ·
  rintro e W2 ⟨⟨v,rfl⟩,(⟨xs,hS,hi,hl,hk⟩|⟨pre,hSp,c,hi,hl,hk⟩)⟩
  ·exact ⟨none,_,run_endLoop (P:=P) hl (by simp),hdone D xs _ (Nat.le_refl _) hS (hI.putObj _ hi (by omega) hl rfl) ((World.putObj_heap_other (by omega)).trans hk)⟩
  ·exact ⟨some c,_,run_endLoop (P:=P) hl (by simp),hstop D c pre _ (Nat.le_refl _) hSp ((hIx c).putObj _ hi (by omega) hl rfl) ((World.putObj_heap_other (by omega)).trans hk)⟩
end Go.Proofs.YtponpgcpmlcdpaaGreatDoor
namespace Go.Proofs.YtponpgcpmlcdpaaGreatDoor
open Go.RowKit Go.Shelf
theorem zci:(Tryz.prog.info? 5).map (fun i=>(i.zero,i.size,i.bytes))=some (some (.int .u8 0),1,1):=by kernel_rfl
abbrev u8s (xs:List Int):List Value:=xs.map (Value.int .u8)
theorem Rd.getU {w:World} {B:Nat} {A:Option Addr} {k:IntKind} {xs:List Int} (h:Rd w B A (xs.map (Value.int k))) {i:Nat} {x:Int} (hx:xs[i]? = some x):∃ad,A=some ad∧ad.block < B∧w.cell? (ad.add i)=some (.int k x) :=
 h i _ (by rw [List.getElem?_map,hx];rfl)
theorem Rd.takeU {w:World} {B:Nat} {A:Option Addr} {xs:List Int} (h:Rd w B A (u8s xs)) (n:Nat):Rd w B A (u8s (xs.take n)):=by
 have:=h.take n
 simpa [u8s] using this
theorem Rd.zrm {w:World} {B:Nat} {A:Option Addr} {xs:List Int} (h:Rd w B A (u8s xs)) {k cap:Nat} (hc:xs.length≤cap):Rd w B (Go.Proofs.YtponpgcpmlcdpaaGreatDoor.cutA A k cap) (u8s (xs.drop k)):=by
 have:=h.cutA (k:=k) (cap:=cap) (by simpa using hc)
 simpa [u8s] using this
theorem Rd.new (w:World) (B:Nat) (xs:List Value) (t:TypeId) (fr:Nat×Nat) (hB:w.heap.size < B):Rd (w.alloc (.cells xs.toArray t fr)) B (some ⟨w.heap.size,0,none⟩) xs:=fun j u hj =>
 ⟨_,rfl,hB,World.news_of_block (heap_alloc_new w _) j u (by simpa using hj)⟩
theorem za8 {B:Nat} {a w:World} (h:Below B a w) (n:Nat):Below B a (w.drewN n):=⟨h.os,h.tape,h.output,h.size,h.block⟩
theorem zcc {w:World} {base:Nat} {e:TypeId}:w.ownsRow base e 1 (.slice none 0 0) ([]:List Int).length (u8s []):=World.ownsRow_nil _ _ _ _
theorem own_below {w w':World} {base:Nat} {e:TypeId} {v:Value} {n:Nat} {xs:List Value} (h:w.ownsRow base e 1 v n xs) {B:Nat} (hb:Below B w w') (hB:w.heap.size≤B):w'.ownsRow base e 1 v n xs:=by
 refine h.kept (row:=none) ⟨hb.os,hb.tape,hb.output,hb.size,fun k hk _=>hb.block k (by omega)⟩ ?_
 cases hv:v.ownBlock with
 |none=>exact .inl rfl
 |some k=>exact .inr (by simp)
theorem zb3 {w:World} {base base':Nat} {e:TypeId} {v:Value} {n:Nat} {xs:List Value} (h:w.ownsRow base e 1 v n xs) (hb:base'≤base):w.ownsRow base' e 1 v n xs:=by
 refine ⟨h.1,?_⟩
 rcases h.2 with h|⟨g,cap,cur,hv,hg,r⟩
 ·exact .inl h
 ·exact .inr ⟨g,cap,cur,hv,by omega,r⟩
theorem za4 {w:World} {base:Nat} {e:TypeId} {v:Value} {n:Nat} {xs:List Value} (h:w.ownsRow base e 1 v n xs):∃A cap,v = .slice A n cap∧n≤cap∧cap≤maxLen∧Rd w w.heap.size A xs:=by
 rcases h.2 with ⟨rfl,rfl⟩|⟨g,cap,cur,rfl,_,_,h1,h2,_⟩
 ·have:xs=[]:=List.eq_nil_of_length_eq_zero (by simpa using h.1)
  subst this
  exact ⟨none,0,rfl,Nat.le_refl _,Nat.zero_le _,Rd.nil _ _ _⟩
 ·exact ⟨_,cap,rfl,h1,h2,Rd.zqs h⟩
theorem zlw (ad:Addr) (k cap:Nat):∃ad',cutA (some ad) k cap=some ad':=by
 unfold cutA;split
 ·exact ⟨_,rfl⟩
 ·exact ⟨_,rfl⟩
theorem za3 {a b:Bool} (h:a=b):Ending.returned (.bool a) = .returned (.bool b):=by rw [h]
end Go.Proofs.YtponpgcpmlcdpaaGreatDoor
namespace Go.Proofs.YtponpgcpmlcdpaaGreatDoor
open Go.RowKit Go.Shelf
theorem ofNat_inj {a b:Int} (ha:0≤a∧a≤255) (hb:0≤b∧b≤255) (h:UInt8.ofNat a.toNat=UInt8.ofNat b.toNat):a=b:=by
 have h1:=congrArg UInt8.toNat h
 simp only [UInt8.toNat_ofNat'] at h1
 omega
theorem ze2:∀ {a b:List Int},(∀x∈a,0≤x∧x≤255)→(∀x∈b,0≤x∧x≤255)→(a.map fun n=>UInt8.ofNat n.toNat)=(b.map fun n=>UInt8.ofNat n.toNat)→a=b:=by
 intro a
 induction a with
 | nil => intro b _ _ h; cases b with
   |nil=>rfl
   |cons y b=>simp at h
 | cons x a ih =>
   intro b ha hb h
   cases b with
   |nil=>simp at h
   | cons y b =>
     rw [List.map_cons,List.map_cons] at h
     injection h with h1 h2
     rw [ofNat_inj (ha x (List.mem_cons_self ..)) (hb y (List.mem_cons_self ..)) h1,ih (fun z hz=>ha z (List.mem_cons_of_mem _ hz)) (fun z hz=>hb z (List.mem_cons_of_mem _ hz)) h2]
theorem zpy {a b:List Int} (ha:∀x∈a,0≤x∧x≤255) (hb:∀x∈b,0≤x∧x≤255):((strOfNums a).toList == (strOfNums b).toList)=decide (a=b):=by
 have e:∀l,(strOfNums l).toList=l.map fun n=>UInt8.ofNat n.toNat:=fun l=>by unfold strOfNums;rw [ByteArray.toList_mk]
 rw [e,e,Bool.eq_iff_iff,beq_iff_eq,decide_eq_true_iff]
 exact ⟨ze2 ha hb,fun h=>by rw [h]⟩
theorem str_of {w : World} {B n cap : Nat} {A : Option Addr} {xs : List Int} (h : Rd w B A (u8s xs)) (hn : xs.length = n) :
  (convert 35 9 (.slice A n cap)).run Tryz.prog w = .ok (.string (strOfNums xs)) w :=
 run_str (P:=Tryz.prog) w 35 5 9 Tryz.underlying35 Tryz.underlying5 Tryz.underlying9 B A n cap xs hn h
theorem own_new (w : World) (base : Nat) (e : TypeId) (xs : List Value) (n : Nat) (hn : xs.length = n) (hb : base ≤ w.heap.size) (hm : n ≤ maxLen) :
  (w.alloc (.cells xs.toArray e)).ownsRow base e 1 (.slice (some ⟨w.heap.size,0,none⟩) n n) n xs :=
 ⟨by simp [hn],.inr ⟨w.heap.size,n,xs.toArray,rfl,hb,World.alloc_heap_new w _,Nat.le_refl _,hm,by simp [hn],by subst hn;simp⟩⟩
theorem zd9 {fn : Func} {t u v x : Tmp} (h : fn.results = #[.tmp t, .tmp u, .tmp v, .tmp x]) (tmps : Array Value) (P : Program) (w : World) :
  (results fn tmps).run P w = .ok (.tuple #[tmps.getD t undef,tmps.getD u undef,tmps.getD v undef,tmps.getD x undef]) w:=by
 simp [results,h]
end Go.Proofs.YtponpgcpmlcdpaaGreatDoor
namespace Go.Proofs.YtponpgcpmlcdpaaGreatDoor
open Go
section
variable {P:Program} {ops:Array Oper} {md:Region.Mode} {Q:Exit→Act→World→Prop} {C:World→Prop}
def anyC (P:Program) (md:Region.Mode) (ops:Array Oper) (Q:Exit→Act→World→Prop) (C:World→Prop):Nat→Array Bool→Act→World→Prop
 |0,listed,a,w=>Region.ready md ops listed=[]∧Q .normal a w
 | n + 1, listed, a, w => (Region.ready md ops listed = [] → Q .normal a w) ∧
    ∀i∈Region.ready md ops listed,wpOp P ops Q i (fun a' w'=>C w'∧anyC P md ops Q C n (listed.setIfInBounds i true) a' w') a w
theorem zof:∀(n:Nat) (listed:Array Bool) (a:Act) (w:World),anyC P md ops Q C n listed a w→wpAny P md ops Q n listed a w
 |0,_,_,_,h=>h
 |n+1,_,_,_,h=>⟨h.1,fun i hi=>wpOp_mono (fun _ _ k=>zof n _ _ _ k.2) (h.2 i hi)⟩
def zf6 (C:World→Prop) (P:Program) (ops:Array Oper) (o:Oper) (v:Value) (a:Act):Prop :=
 (Region.wanted o (yielded ops a.tmps)=true∧∀w,C w→(execOp a.eval o).run P w = .ok (.value v) w)∨(Region.wanted o (yielded ops a.tmps)=false∧v=undef)
theorem zf6.here {i:Nat} {o:Oper} {v:Value} {a:Act} {w:World} (hi:ops[i]? = some o) (h:zf6 C P ops o v a) (hw:C w) {K:Act→World→Prop} (hk:K (a.put o.dst v) w):wpOp P ops Q i K a w:=by
 rcases h with ⟨h1,h2⟩|⟨h1,rfl⟩
 ·simp only [wpOp,hi,h1,if_true]
  exact .inl (by simpa only [Oper.wp,h2 w hw,Oper.upon] using hk)
 ·simp only [wpOp,hi,h1]
  exact hk
theorem zf6.like {o:Oper} {v:Value} {a b:Act} (h:zf6 C P ops o v a) (he:execOp b.eval o=execOp a.eval o) (hw:Region.wanted o (yielded ops b.tmps)=Region.wanted o (yielded ops a.tmps)):zf6 C P ops o v b :=
 h.imp (fun g=>⟨hw▸g.1,he▸g.2⟩) (fun g=>⟨hw▸g.1,g.2⟩)
theorem zf6.swap {j : Nat} {oi oj : Oper} {v : Value} (hj : ops[j]? = some oj) (hap : oi.apart ops oj = true) (hsi : ∀ cs b, oi.op ≠ .select cs b) (hsj : ∀ cs b, oj.op ≠ .select cs b)
  (hQ:∀c a w,Q (.panic c) (a.put oi.dst v) w→Q (.panic c) a w) {K:Act→World→Prop} {a:Act} {w:World} (hy:zf6 C P ops oi v a) (h:wpOp P ops Q j K (a.put oi.dst v) w) :
  wpOp P ops Q j (fun a' w'=>zf6 C P ops oi v a'∧K (a'.put oi.dst v) w') a w:=by
 obtain ⟨d1,d2,d3⟩:=Oper.apart_spec hap
 have stay:∀(b:Act) (u:Value),zf6 C P ops oi v b→zf6 C P ops oi v (b.put oj.dst u):=fun b u hb =>
  hb.like (execOp_put oi hsi b oj.dst u d3) (wanted_put oi b oj.dst u d3)
 have both:∀(b:Act) (u:Value) (w':World),zf6 C P ops oi v b→K ((b.put oi.dst v).put oj.dst u) w'→zf6 C P ops oi v (b.put oj.dst u)∧K ((b.put oj.dst u).put oi.dst v) w':=fun b u w' hb hk =>
  ⟨stay b u hb,(Act.put_comm b v u d2)▸hk⟩
 have same:=execOp_put oj hsj a oi.dst v d1
 simp only [wpOp,hj,wanted_put oj a oi.dst v d1] at h ⊢
 by_cases hw:Region.wanted oj (yielded ops a.tmps)=true
 ·simp only [hw,if_true] at h ⊢
  refine h.imp (fun g => ?_) (fun g=>⟨?_,g.2⟩)
  ·unfold Oper.wp at g ⊢
   rw [same] at g
   cases hr:(execOp a.eval oj).run P w with
   | halt x w' =>
     rw [hr] at g
     cases x<;>simp only [Oper.upon] at g ⊢
     exact hQ _ _ _ g
   | ok t w' =>
     rw [hr] at g
     cases t<;>simp only [Oper.upon] at g ⊢
     case value u=>exact both a u w' hy g
     case skip=>exact both a undef w' hy g
     case defer d =>
      rw [Act.put_defers] at g
      exact both _ undef w' (hy.like rfl rfl) g
     case enter f args =>
      refine Calls.mono g fun e w'' k => ?_
      cases e with
      |returned u=>exact both a u w'' hy k
      |panicked c=>exact hQ _ _ _ k
      |outgrown=>exact k
     case row r args=>exact Rows.mono g fun u w'' k=>both a u w'' hy k
  ·have:=g.1
   unfold Oper.asks at this ⊢
   rwa [same] at this
 ·simp only [hw] at h ⊢
  exact both a undef w hy h
theorem zjy {i : Nat} {oi : Oper} {v : Value} (hi : ops[i]? = some oi) (hs : ∀ (j : Nat) (o : Oper) cs b, ops[j]? = some o → o.op ≠ .select cs b)
  (hQ:∀c a w,Q (.panic c) (a.put oi.dst v) w→Q (.panic c) a w) :
  ∀(n:Nat) (listed:Array Bool) (a:Act) (w:World),C w →
   (∀j oj,ops[j]? = some oj→j≠i→listed.getD j true=false→(∀e∈oj.after,Region.binds md e=true→e.on≠i)→oi.apart ops oj=true) →
   i∈Region.ready md ops listed→zf6 C P ops oi v a→anyC P md ops Q C n (listed.setIfInBounds i true) (a.put oi.dst v) w→anyC P md ops Q C (n+1) listed a w:=by
 intro n
 induction n with
 | zero =>
   intro listed a w hw hap hr hy h
   refine ⟨fun e=>absurd hr (by rw [e];exact List.not_mem_nil),fun j hj => ?_⟩
   by_cases e:j=i
   ·subst e;exact hy.here hi hw ⟨hw,h⟩
   ·exact absurd (ready_mono hj e) (by rw [h.1];exact List.not_mem_nil)
 | succ n ih =>
   intro listed a w hw hap hr hy h
   refine ⟨fun e=>absurd hr (by rw [e];exact List.not_mem_nil),fun j hj => ?_⟩
   by_cases e:j=i
   ·subst e;exact hy.here hi hw ⟨hw,h⟩
   obtain ⟨hun,oj,hoj,hall⟩:=mem_ready.1 hj
   have hun2:=(mem_ready.1 hr).1
   have hoff:∀x∈oj.after,Region.binds md x=true→x.on≠i:=fun x hx hb he=>by
    have h1:=hall x hx hb
    rw [he] at h1
    by_cases hlt:i < listed.size
    ·simp only [Array.getD_eq_getD_getElem?,Array.getElem?_eq_getElem hlt,Option.getD_some] at h1 hun2
     rw [h1] at hun2
     cases hun2
    ·simp [Array.getElem?_eq_none (Nat.le_of_not_lt hlt)] at h1
   refine wpOp_mono (fun a' w' k=>⟨k.2.1,ih _ a' w' k.2.1 (fun m om hm hmi hmu hmo=>hap m om hm hmi ?_ hmo) (ready_mono hr (Ne.symm e)) k.1 ?_⟩)
    (hy.swap hoj (hap j oj hoj e hun hoff) (fun cs b=>hs i oi cs b hi) (fun cs b=>hs j oj cs b hoj) hQ (h.2 j (ready_mono hj e)))
   ·by_cases hjm:j=m
    ·subst hjm;exact hun
    ·rwa [getD_set_ne true hjm] at hmu
   ·rw [Array.setIfInBounds_comm _ _ e]
    exact k.2.2
theorem zaf {i : Nat} {oi : Oper} {v : Value} {listed : Array Bool} {a a' : Act} {w : World} {n : Nat} (hi : ops[i]? = some oi) (hs : Region.noSelect ops = true) (hf : Region.free md ops listed i = true) (hr : (Region.ready md ops listed).contains i = true)
  (hQ:∀c a w,Q (.panic c) (a.put oi.dst v) w→Q (.panic c) a w) (hw:C w) (hn:Region.wanted oi (yielded ops a.tmps)=true) (hy:∀w,C w→(execOp a.eval oi).run P w = .ok (.value v) w) (ha:a.put oi.dst v=a')
  (h:anyC P md ops Q C n (listed.setIfInBounds i true) a' w):anyC P md ops Q C (n+1) listed a w :=
 zjy hi (Region.noSelect_spec hs) hQ n listed a w hw (Region.free_spec hi hf) (by simpa using hr) (.inl ⟨hn,hy⟩) (by rw [ha];exact h)
theorem zas {i : Nat} {oi : Oper} {listed : Array Bool} {a a' : Act} {w : World} {n : Nat} (hi : ops[i]? = some oi) (hs : Region.noSelect ops = true) (hf : Region.free md ops listed i = true) (hr : (Region.ready md ops listed).contains i = true)
  (hQ:∀c a w,Q (.panic c) (a.put oi.dst undef) w→Q (.panic c) a w) (hw:C w) (hn:Region.wanted oi (yielded ops a.tmps)=false) (ha:a.put oi.dst undef=a')
  (h:anyC P md ops Q C n (listed.setIfInBounds i true) a' w):anyC P md ops Q C (n+1) listed a w :=
 zjy hi (Region.noSelect_spec hs) hQ n listed a w hw (Region.free_spec hi hf) (by simpa using hr) (.inr ⟨hn,rfl⟩) (by rw [ha];exact h)
def Kept (C:World→Prop) (w:World) (X:Prop):Prop:=C w∧X
theorem za5 {i : Nat} {oi : Oper} {listed : Array Bool} {a : Act} {w : World} {n : Nat} (hi : ops[i]? = some oi) (hr : Region.ready md ops listed = [i]) (hn : Region.wanted oi (yielded ops a.tmps) = true)
  (h:∀K:Act→World→Prop,(∀a' w',Kept C w' (anyC P md ops Q C n (listed.setIfInBounds i true) a' w')→K a' w')→oi.wp P a w K Q):anyC P md ops Q C (n+1) listed a w :=
 ⟨fun e=>(by rw [hr] at e;cases e),fun j hj=>by
  rw [hr,List.mem_singleton] at hj
  subst hj
  simp only [wpOp,hi,hn,if_true]
  exact .inl (h _ fun a' w' k=>k)⟩
theorem zbc {listed:Array Bool} {a:Act} {w:World} {n:Nat} (hr:Region.ready md ops listed=[]) (h:Q .normal a w):anyC P md ops Q C n listed a w:=by
 cases n with
 |zero=>exact ⟨hr,h⟩
 |succ n=>exact ⟨fun _=>h,fun j hj=>by rw [hr] at hj;cases hj⟩
theorem zc6 {id : Nat} {a : Act} {w : World} (C : World → Prop) (hm : P.follows .mixedOrders = true)
  (h:anyC P .any ops Q C ops.size (Array.replicate ops.size false) a w.drew):(Code.region id ops true).wp P Q a w :=
 wp_region_any hm (zof _ _ _ _ h)
end
end Go.Proofs.YtponpgcpmlcdpaaGreatDoor
namespace Go.Proofs.YtponpgcpmlcdpaaGreatDoor
open Go
section
variable {P:Program} {ops:Array Oper} {md:Region.Mode} {Q:Exit→Act→World→Prop} {C:World→Prop}
def zdu (C:World→Prop) (P:Program) (ops:Array Oper) (o:Oper) (v:Value) (a:Act):Prop :=
 Region.wanted o (yielded ops a.tmps)=true∧∃f args,∀w,C w→(execOp a.eval o).run P w = .ok (.enter f args) w∧Calls P f args w fun e w'=>e = .returned v∧w'=w
theorem zdu.here {i:Nat} {o:Oper} {v:Value} {a:Act} {w:World} (hi:ops[i]? = some o) (h:zdu C P ops o v a) (hw:C w) {K:Act→World→Prop} (hk:K (a.put o.dst v) w):wpOp P ops Q i K a w:=by
 obtain ⟨h1,f,args,h2⟩:=h
 obtain ⟨h3,h4⟩:=h2 w hw
 simp only [wpOp,hi,h1,if_true]
 refine .inl ?_
 unfold Oper.wp
 rw [h3]
 simp only [Oper.upon]
 refine Calls.mono h4 ?_
 rintro e w' ⟨rfl,rfl⟩
 exact hk
theorem zdu.like {o:Oper} {v:Value} {a b:Act} (h:zdu C P ops o v a) (he:execOp b.eval o=execOp a.eval o) (hw:Region.wanted o (yielded ops b.tmps)=Region.wanted o (yielded ops a.tmps)):zdu C P ops o v b:=by
 obtain ⟨h1,f,args,h2⟩:=h
 exact ⟨hw▸h1,f,args,fun w hc=>he▸h2 w hc⟩
theorem zdu.swap {j : Nat} {oi oj : Oper} {v : Value} (hj : ops[j]? = some oj) (hap : oi.apart ops oj = true) (hsi : ∀ cs b, oi.op ≠ .select cs b) (hsj : ∀ cs b, oj.op ≠ .select cs b)
  (hQ:∀c a w,Q (.panic c) (a.put oi.dst v) w→Q (.panic c) a w) {K:Act→World→Prop} {a:Act} {w:World} (hy:zdu C P ops oi v a) (h:wpOp P ops Q j K (a.put oi.dst v) w) :
  wpOp P ops Q j (fun a' w'=>zdu C P ops oi v a'∧K (a'.put oi.dst v) w') a w:=by
 obtain ⟨d1,d2,d3⟩:=Oper.apart_spec hap
 have stay:∀(b:Act) (u:Value),zdu C P ops oi v b→zdu C P ops oi v (b.put oj.dst u):=fun b u hb =>
  hb.like (execOp_put oi hsi b oj.dst u d3) (wanted_put oi b oj.dst u d3)
 have both:∀(b:Act) (u:Value) (w':World),zdu C P ops oi v b→K ((b.put oi.dst v).put oj.dst u) w'→zdu C P ops oi v (b.put oj.dst u)∧K ((b.put oj.dst u).put oi.dst v) w':=fun b u w' hb hk =>
  ⟨stay b u hb,(Act.put_comm b v u d2)▸hk⟩
 have same:=execOp_put oj hsj a oi.dst v d1
 simp only [wpOp,hj,wanted_put oj a oi.dst v d1] at h ⊢
 by_cases hw:Region.wanted oj (yielded ops a.tmps)=true
 ·simp only [hw,if_true] at h ⊢
  refine h.imp (fun g => ?_) (fun g=>⟨?_,g.2⟩)
  ·unfold Oper.wp at g ⊢
   rw [same] at g
   cases hr:(execOp a.eval oj).run P w with
   | halt x w' =>
     rw [hr] at g
     cases x<;>simp only [Oper.upon] at g ⊢
     exact hQ _ _ _ g
   | ok t w' =>
     rw [hr] at g
     cases t<;>simp only [Oper.upon] at g ⊢
     case value u=>exact both a u w' hy g
     case skip=>exact both a undef w' hy g
     case defer d =>
      rw [Act.put_defers] at g
      exact both _ undef w' (hy.like rfl rfl) g
     case enter f args =>
      refine Calls.mono g fun e w'' k => ?_
      cases e with
      |returned u=>exact both a u w'' hy k
      |panicked c=>exact hQ _ _ _ k
      |outgrown=>exact k
     case row r args=>exact Rows.mono g fun u w'' k=>both a u w'' hy k
  ·have:=g.1
   unfold Oper.asks at this ⊢
   rwa [same] at this
 ·simp only [hw] at h ⊢
  exact both a undef w hy h
end
end Go.Proofs.YtponpgcpmlcdpaaGreatDoor
namespace Go.Proofs.YtponpgcpmlcdpaaGreatDoor
open Go
section
variable {P:Program} {ops:Array Oper} {md:Region.Mode} {Q:Exit→Act→World→Prop} {C:World→Prop} {D:Nat→Bool}
def waits (md:Region.Mode) (ops:Array Oper) (D:Nat→Bool) (i:Nat):Bool :=
 !D i&&(List.range ops.size).all fun j => !D j || (match ops[j]? with|some oj=>oj.after.toList.any (fun e=>Region.binds md e&&e.on == i)|none=>true)
theorem zon {i:Nat} (h:waits md ops D i=true):D i=false∧∀j oj,ops[j]? = some oj→D j=true→∃e∈oj.after,Region.binds md e=true∧e.on=i:=by
 unfold waits at h
 rw [Bool.and_eq_true,List.all_eq_true] at h
 refine ⟨by simpa using h.1,fun j oj hj hd => ?_⟩
 have hlt:j < ops.size:=(Array.getElem?_eq_some_iff.1 hj).1
 have h2:=h.2 j (List.mem_range.2 hlt)
 rw [hd,hj] at h2
 simp only [Bool.not_true,Bool.false_or,List.any_eq_true,Bool.and_eq_true,beq_iff_eq] at h2
 obtain ⟨e,he,hb,ho⟩:=h2
 exact ⟨e,by simpa using he,hb,ho⟩
end
end Go.Proofs.YtponpgcpmlcdpaaGreatDoor
namespace Go.Proofs.YtponpgcpmlcdpaaGreatDoor
open Go Go.RowKit
section
variable {P:Program} {ops:Array Oper} {md:Region.Mode} {Q:Exit→Act→World→Prop} {C:World→Prop} {D:Nat→Bool}
def Bears (S:Act→World→Prop):Prop:=∀a w w',S a w→Below w.heap.size w w'→S a w'
def At (a0:Act) (C:World→Prop):Act→World→Prop:=fun a w=>a=a0∧C w
theorem At.bears {a0:Act} {C:World→Prop} (h:∀w w',C w→Below w.heap.size w w'→C w'):Bears (At a0 C):=fun _ _ _ k hb=>⟨k.1,h _ _ k.2 hb⟩
def anyW (P:Program) (md:Region.Mode) (ops:Array Oper) (Q:Exit→Act→World→Prop) (C:World→Prop) (D:Nat→Bool):Nat→Array Bool→(Act→World→Prop)→Prop
 |0,listed,S=>Region.ready md ops listed=[]∧∀a w,S a w→Q .normal a w
 | n + 1, listed, S => (Region.ready md ops listed = [] → ∀ a w, S a w → Q .normal a w) ∧
    ∀i∈Region.ready md ops listed,∃S',Bears S'∧(D i=true∨∀a w,S' a w→C w)∧(∀a w,S a w→wpOp P ops Q i S' a w)∧anyW P md ops Q C D n (listed.setIfInBounds i true) S'
theorem zks:∀(n:Nat) (listed:Array Bool) (S:Act→World→Prop),anyW P md ops Q C D n listed S→∀a w,S a w→wpAny P md ops Q n listed a w
 |0,_,_,h,a,w,hw=>⟨h.1,h.2 a w hw⟩
 | n + 1, _, _, h, a, w, hw => ⟨fun e => h.1 e a w hw, fun i hi => by
    obtain ⟨S',-,-,h3,h4⟩:=h.2 i hi
    exact wpOp_mono (fun _ _ k=>zks n _ _ h4 _ _ k) (h3 a w hw)⟩
theorem zix {n:Nat} {listed:Array Bool} {S T:Act→World→Prop} (hs:∀a w,S a w→T a w) (h:anyW P md ops Q C D n listed T):anyW P md ops Q C D n listed S:=by
 cases n with
 |zero=>exact ⟨h.1,fun a w k=>h.2 a w (hs a w k)⟩
 | succ n =>
   refine ⟨fun e a w k=>h.1 e a w (hs a w k),fun i hi => ?_⟩
   obtain ⟨S',h1,h2,h3,h4⟩:=h.2 i hi
   exact ⟨S',h1,h2,fun a w k=>h3 a w (hs a w k),h4⟩
theorem zg0 {C':World→Prop} (hc:∀w,C w→C' w):∀ {n:Nat} {listed:Array Bool} {S:Act→World→Prop},anyW P md ops Q C D n listed S→anyW P md ops Q C' D n listed S
 |0,_,_,h=>h
 | n + 1, _, _, h => ⟨h.1, fun i hi => by
    obtain ⟨S',h1,h2,h3,h4⟩:=h.2 i hi
    exact ⟨S',h1,h2.imp id (fun k a w q=>hc _ (k a w q)),h3,zg0 hc h4⟩⟩
theorem zet {ι:Type} (b0:ι):∀ {n:Nat} {listed:Array Bool} {S:ι→Act→World→Prop},(∀b,anyW P md ops Q C D n listed (S b))→anyW P md ops Q C D n listed (fun a w=>∃b,S b a w)
 |0,_,_,h=>⟨(h b0).1,fun a w ⟨b,k⟩=>(h b).2 a w k⟩
 | n + 1, _, _, h => ⟨fun e a w ⟨b, k⟩ => (h b).1 e a w k, fun i hi => by
    refine ⟨fun a w=>∃b,Classical.choose ((h b).2 i hi) a w,fun a w w' ⟨b,k⟩ hw=>⟨b,(Classical.choose_spec ((h b).2 i hi)).1 a w w' k hw⟩,?_,fun a w ⟨b,k⟩=>wpOp_mono (fun a' w' q=>⟨b,q⟩) ((Classical.choose_spec ((h b).2 i hi)).2.2.1 a w k),zet b0 (fun b=>(Classical.choose_spec ((h b).2 i hi)).2.2.2)⟩
    by_cases hd:D i=true
    ·exact .inl hd
    ·exact .inr fun a w ⟨b,k⟩=>((Classical.choose_spec ((h b).2 i hi)).2.1.resolve_left hd) a w k⟩
def zdv (C:World→Prop) (P:Program) (ops:Array Oper) (o:Oper) (v:Value) (a:Act):Prop :=
 (Region.wanted o (yielded ops a.tmps) = true ∧ ∀ w, C w → (∃ w', (execOp a.eval o).run P w = .ok (.value v) w' ∧ Below w.heap.size w w') ∨
    (∃f args,(execOp a.eval o).run P w = .ok (.enter f args) w∧Calls P f args w fun e w''=>e = .returned v∧Below w.heap.size w w'')) ∨
 (Region.wanted o (yielded ops a.tmps)=false∧v=undef)
theorem zdv.here {i:Nat} {o:Oper} {v:Value} {a:Act} {w:World} (hi:ops[i]? = some o) (h:zdv C P ops o v a) (hw:C w) {K:Act→World→Prop} (hk:∀w',Below w.heap.size w w'→K (a.put o.dst v) w'):wpOp P ops Q i K a w:=by
 rcases h with ⟨h1,h2⟩|⟨h1,rfl⟩
 ·simp only [wpOp,hi,h1,if_true]
  refine .inl ?_
  unfold Oper.wp
  rcases h2 w hw with ⟨w',h3,h4⟩|⟨f,args,h3,h4⟩
  ·rw [h3]
   exact hk w' h4
  ·rw [h3]
   simp only [Oper.upon]
   refine Calls.mono h4 ?_
   rintro e w'' ⟨rfl,hc⟩
   exact hk _ hc
 ·simp only [wpOp,hi,h1]
  exact hk w (Below.refl _ _)
theorem zdv.like {o:Oper} {v:Value} {a b:Act} (h:zdv C P ops o v a) (he:execOp b.eval o=execOp a.eval o) (hw:Region.wanted o (yielded ops b.tmps)=Region.wanted o (yielded ops a.tmps)):zdv C P ops o v b :=
 h.imp (fun g=>⟨hw▸g.1,he▸g.2⟩) (fun g=>⟨hw▸g.1,g.2⟩)
theorem zdv.swap {j : Nat} {oi oj : Oper} {v : Value} (hj : ops[j]? = some oj) (hap : oi.apart ops oj = true) (hsi : ∀ cs b, oi.op ≠ .select cs b) (hsj : ∀ cs b, oj.op ≠ .select cs b)
  (hQ:∀c a w,Q (.panic c) (a.put oi.dst v) w→Q (.panic c) a w) {K:Act→World→Prop} {a:Act} {w:World} (hy:zdv C P ops oi v a) (h:wpOp P ops Q j K (a.put oi.dst v) w) :
  wpOp P ops Q j (fun a' w'=>zdv C P ops oi v a'∧K (a'.put oi.dst v) w') a w:=by
 obtain ⟨d1,d2,d3⟩:=Oper.apart_spec hap
 have stay:∀(b:Act) (u:Value),zdv C P ops oi v b→zdv C P ops oi v (b.put oj.dst u):=fun b u hb =>
  hb.like (execOp_put oi hsi b oj.dst u d3) (wanted_put oi b oj.dst u d3)
 have both:∀(b:Act) (u:Value) (w':World),zdv C P ops oi v b→K ((b.put oi.dst v).put oj.dst u) w'→zdv C P ops oi v (b.put oj.dst u)∧K ((b.put oj.dst u).put oi.dst v) w':=fun b u w' hb hk =>
  ⟨stay b u hb,(Act.put_comm b v u d2)▸hk⟩
 have same:=execOp_put oj hsj a oi.dst v d1
 simp only [wpOp,hj,wanted_put oj a oi.dst v d1] at h ⊢
 by_cases hw:Region.wanted oj (yielded ops a.tmps)=true
 ·simp only [hw,if_true] at h ⊢
  refine h.imp (fun g => ?_) (fun g=>⟨?_,g.2⟩)
  ·unfold Oper.wp at g ⊢
   rw [same] at g
   cases hr:(execOp a.eval oj).run P w with
   | halt x w' =>
     rw [hr] at g
     cases x<;>simp only [Oper.upon] at g ⊢
     exact hQ _ _ _ g
   | ok t w' =>
     rw [hr] at g
     cases t<;>simp only [Oper.upon] at g ⊢
     case value u=>exact both a u w' hy g
     case skip=>exact both a undef w' hy g
     case defer d =>
      rw [Act.put_defers] at g
      exact both _ undef w' (hy.like rfl rfl) g
     case enter f args =>
      refine Calls.mono g fun e w'' k => ?_
      cases e with
      |returned u=>exact both a u w'' hy k
      |panicked c=>exact hQ _ _ _ k
      |outgrown=>exact k
     case row r args=>exact Rows.mono g fun u w'' k=>both a u w'' hy k
  ·have:=g.1
   unfold Oper.asks at this ⊢
   rwa [same] at this
 ·simp only [hw] at h ⊢
  exact both a undef w hy h
theorem zjx {i : Nat} {oi : Oper} {v : Value} (hi : ops[i]? = some oi) (hs : ∀ (j : Nat) (o : Oper) cs b, ops[j]? = some o → o.op ≠ .select cs b)
  (hQ:∀c a w,Q (.panic c) (a.put oi.dst v) w→Q (.panic c) a w) (hwt:waits md ops D i=true) :
  ∀(n:Nat) (listed:Array Bool) (S:Act→World→Prop),Bears S→(∀a w,S a w→C w∧zdv C P ops oi v a) →
   (∀j oj,ops[j]? = some oj→j≠i→listed.getD j true=false→(∀e∈oj.after,Region.binds md e=true→e.on≠i)→oi.apart ops oj=true) →
   i∈Region.ready md ops listed→anyW P md ops Q C D n (listed.setIfInBounds i true) (fun a' w=>∃a,a'=a.put oi.dst v∧S a w)→anyW P md ops Q C D (n+1) listed S:=by
 intro n
 have own : ∀ (m : Nat) (listed : Array Bool) (S : Act → World → Prop), Bears S → (∀ a w, S a w → C w ∧ zdv C P ops oi v a) → anyW P md ops Q C D m (listed.setIfInBounds i true) (fun a' w => ∃ a, a' = a.put oi.dst v ∧ S a w) →
   ∃S',Bears S'∧(D i=true∨∀a w,S' a w→C w)∧(∀a w,S a w→wpOp P ops Q i S' a w)∧anyW P md ops Q C D m (listed.setIfInBounds i true) S':=fun m listed S hB hS h =>
  ⟨_,fun a w w' ⟨b,e,k⟩ hw=>⟨b,e,hB b w w' k hw⟩,.inr fun a w ⟨b,_,k⟩=>(hS b w k).1,fun a w k=>(hS a w k).2.here hi (hS a w k).1 fun w' hw'=>⟨a,rfl,hB a w w' k hw'⟩,h⟩
 induction n with
 | zero =>
   intro listed S hB hS hap hr h
   refine ⟨fun e=>absurd hr (by rw [e];exact List.not_mem_nil),fun j hj => ?_⟩
   by_cases e:j=i
   ·subst e;exact own _ _ _ hB hS h
   ·exact absurd (ready_mono hj e) (by rw [h.1];exact List.not_mem_nil)
 | succ n ih =>
   intro listed S hB hS hap hr h
   refine ⟨fun e=>absurd hr (by rw [e];exact List.not_mem_nil),fun j hj => ?_⟩
   by_cases e:j=i
   ·subst e;exact own _ _ _ hB hS h
   obtain ⟨hun,oj,hoj,hall⟩:=mem_ready.1 hj
   have hun2:=(mem_ready.1 hr).1
   have hoff:∀x∈oj.after,Region.binds md x=true→x.on≠i:=fun x hx hb he=>by
    have h1:=hall x hx hb
    rw [he] at h1
    by_cases hlt:i < listed.size
    ·simp only [Array.getD_eq_getD_getElem?,Array.getElem?_eq_getElem hlt,Option.getD_some] at h1 hun2
     rw [h1] at hun2
     cases hun2
    ·simp [Array.getElem?_eq_none (Nat.le_of_not_lt hlt)] at h1
   have hdj:D j=false:=by
    cases hd:D j with
    |false=>rfl
    | true =>
      obtain ⟨x,hx,hb,ho⟩:=(zon hwt).2 j oj hoj hd
      exact absurd ho (hoff x hx hb)
   obtain ⟨S'',h1,h2,h3,h4⟩:=h.2 j (ready_mono hj e)
   have h2':=h2.resolve_left (by rw [hdj];decide)
   refine ⟨fun a' w'=>zdv C P ops oi v a'∧S'' (a'.put oi.dst v) w',fun a w w' k hw=>⟨k.1,h1 _ w w' k.2 hw⟩,.inr fun a w k=>h2' _ w k.2,fun a w k=>(hS a w k).2.swap hoj (hap j oj hoj e hun hoff) (fun cs b=>hs i oi cs b hi) (fun cs b=>hs j oj cs b hoj) hQ (h3 _ w ⟨a,rfl,k⟩),?_⟩
   refine ih _ _ (fun a w w' k hw=>⟨k.1,h1 _ w w' k.2 hw⟩) (fun a w k=>⟨h2' _ w k.2,k.1⟩) (fun m om hm hmi hmu hmo=>hap m om hm hmi ?_ hmo) (ready_mono hr (Ne.symm e)) ?_
   ·by_cases hjm:j=m
    ·subst hjm;exact hun
    ·rwa [getD_set_ne true hjm] at hmu
   ·rw [Array.setIfInBounds_comm _ _ e]
    exact zix (fun a' w ⟨a,e,k⟩=>by rw [e];exact k.2) h4
def zdc (C:World→Prop):Prop:=∀w w',C w→Below w.heap.size w w'→C w'
theorem zg1 {i : Nat} {oi : Oper} {v : Value} {listed : Array Bool} {a a' : Act} {n : Nat} (hC : zdc C) (hi : ops[i]? = some oi) (hs : Region.noSelect ops = true) (hf : Region.free md ops listed i = true) (hr : (Region.ready md ops listed).contains i = true)
  (hQ:∀c a w,Q (.panic c) (a.put oi.dst v) w→Q (.panic c) a w) (hwt:waits md ops D i=true) (hy:zdv C P ops oi v a) (ha:a.put oi.dst v=a')
  (h:anyW P md ops Q C D n (listed.setIfInBounds i true) (At a' C)):anyW P md ops Q C D (n+1) listed (At a C) :=
 zjx hi (Region.noSelect_spec hs) hQ hwt n listed _ (At.bears hC) (fun b w k=>⟨k.2,by rw [k.1];exact hy⟩) (Region.free_spec hi hf) (by simpa using hr) (zix (fun b w ⟨b2,e,k⟩=>⟨by rw [e,k.1,ha],k.2⟩) h)
theorem zcw {i : Nat} {oi : Oper} {v : Value} {listed : Array Bool} {a a' : Act} {n : Nat} (hC : zdc C) (hi : ops[i]? = some oi) (hs : Region.noSelect ops = true) (hf : Region.free md ops listed i = true) (hr : (Region.ready md ops listed).contains i = true)
  (hQ:∀c a w,Q (.panic c) (a.put oi.dst v) w→Q (.panic c) a w) (hwt:waits md ops D i=true) (hn:Region.wanted oi (yielded ops a.tmps)=true) (hy:∀w,C w→(execOp a.eval oi).run P w = .ok (.value v) w) (ha:a.put oi.dst v=a')
  (h:anyW P md ops Q C D n (listed.setIfInBounds i true) (At a' C)):anyW P md ops Q C D (n+1) listed (At a C) :=
 zg1 hC hi hs hf hr hQ hwt (.inl ⟨hn,fun w hw => .inl ⟨w,hy w hw,Below.refl _ _⟩⟩) ha h
theorem zdb {i : Nat} {oi : Oper} {v : Value} {f : FuncId} {args : Array Value} {listed : Array Bool} {a a' : Act} {n : Nat} (hC : zdc C) (hi : ops[i]? = some oi) (hs : Region.noSelect ops = true) (hf : Region.free md ops listed i = true) (hr : (Region.ready md ops listed).contains i = true)
  (hQ:∀c a w,Q (.panic c) (a.put oi.dst v) w→Q (.panic c) a w) (hwt:waits md ops D i=true) (hc:∀w,C w→Calls P f args w fun e w'=>e = .returned v∧Below w.heap.size w w') (hn:Region.wanted oi (yielded ops a.tmps)=true)
  (hy:∀w,C w→(execOp a.eval oi).run P w = .ok (.enter f args) w) (ha:a.put oi.dst v=a')
  (h:anyW P md ops Q C D n (listed.setIfInBounds i true) (At a' C)):anyW P md ops Q C D (n+1) listed (At a C) :=
 zg1 hC hi hs hf hr hQ hwt (.inl ⟨hn,fun w hw => .inr ⟨f,args,hy w hw,hc w hw⟩⟩) ha h
theorem zr3 {i : Nat} {oi : Oper} {listed : Array Bool} {a a' : Act} {n : Nat} (hC : zdc C) (hi : ops[i]? = some oi) (hs : Region.noSelect ops = true) (hf : Region.free md ops listed i = true) (hr : (Region.ready md ops listed).contains i = true)
  (hQ:∀c a w,Q (.panic c) (a.put oi.dst undef) w→Q (.panic c) a w) (hwt:waits md ops D i=true) (hn:Region.wanted oi (yielded ops a.tmps)=false) (ha:a.put oi.dst undef=a')
  (h:anyW P md ops Q C D n (listed.setIfInBounds i true) (At a' C)):anyW P md ops Q C D (n+1) listed (At a C) :=
 zg1 hC hi hs hf hr hQ hwt (.inr ⟨hn,rfl⟩) ha h
theorem zda {i : Nat} {oi : Oper} {listed : Array Bool} {a : Act} {n : Nat} {C' : World → Prop} (S : Act → World → Prop) (hS : Bears S) (hi : ops[i]? = some oi) (hr : Region.ready md ops listed = [i]) (hn : Region.wanted oi (yielded ops a.tmps) = true) (hd : D i = true ∨ ∀ a w, S a w → C w)
  (hy:∀w,C' w→oi.wp P a w S Q) (h:anyW P md ops Q C D n (listed.setIfInBounds i true) S):anyW P md ops Q C D (n+1) listed (At a C') :=
 ⟨fun e=>(by rw [hr] at e;cases e),fun j hj=>by
  rw [hr,List.mem_singleton] at hj
  subst hj
  refine ⟨S,hS,hd,fun b w k => ?_,h⟩
  obtain ⟨rfl,k⟩:=k
  simp only [wpOp,hi,hn,if_true]
  exact .inl (hy w k)⟩
theorem zan {listed:Array Bool} {a:Act} {n:Nat} {C':World→Prop} (hr:Region.ready md ops listed=[]) (h:∀w,C' w→Q .normal a w):anyW P md ops Q C D n listed (At a C'):=by
 cases n with
 |zero=>exact ⟨hr,fun b w k=>by rw [k.1];exact h w k.2⟩
 |succ n=>exact ⟨fun _ b w k=>by rw [k.1];exact h w k.2,fun j hj=>by rw [hr] at hj;cases hj⟩
theorem region_W {id : Nat} {a : Act} {w : World} (C : World → Prop) (D : Nat → Bool) (hm : P.follows .mixedOrders = true) (hw : C w.drew)
  (h:anyW P .any ops Q C D ops.size (Array.replicate ops.size false) (At a C)):(Code.region id ops true).wp P Q a w :=
 wp_region_any hm (zks _ _ _ h _ _ ⟨rfl,hw⟩)
end
end Go.Proofs.YtponpgcpmlcdpaaGreatDoor
namespace Go.Proofs.YtponpgcpmlcdpaaGreatDoor.Bt
open Go.RowKit
theorem zpv {a b : Int} {i : Nat} (h0 : 0 ≤ a) (h1 : a < 2 ^ i) (h2 : 0 ≤ b) (h3 : a + b * 2 ^ i ≤ 18446744073709551615) :
  bits .or .u64 a (b * 2 ^ i)=a+b * 2 ^ i:=by
 obtain ⟨x,rfl⟩:=Int.eq_ofNat_of_zero_le h0
 obtain ⟨y,rfl⟩:=Int.eq_ofNat_of_zero_le h2
 have hx:x < 2 ^ i:=by exact_mod_cast h1
 have e:((y:Int) * 2 ^ i)=((y * 2 ^ i:Nat):Int):=by push_cast;rfl
 rw [e] at h3 ⊢
 rw [u64_or _ _ (by omega) (by omega) (by omega) (by omega)]
 have hj:(y * 2 ^ i) ||| x=y * 2 ^ i+x:=nat_join i _ _ (Nat.mul_mod_left _ _) hx
 rw [Nat.or_comm] at hj
 simp only [Int.toNat_natCast]
 rw [hj]
 omega
theorem zqo {v c : Int} {g : Nat} (h0 : 0 ≤ v) (h1 : v < 2 ^ (7 * g)) (c0 : 0 ≤ c) (c1 : c < 128) (hg : g < 9 ∨ (g = 9 ∧ c ≤ 1)) :
  bits .or .u64 v (IntKind.u64.wrap (c * 2 ^ (7 * g)))=v+c * 2 ^ (7 * g)∧0≤v+c * 2 ^ (7 * g)∧v+c * 2 ^ (7 * g)≤18446744073709551615 ∧
   v+c * 2 ^ (7 * g) < 2 ^ (7 * (g+1)):=by
 have hp0:(0:Int) < 2 ^ (7 * g):=Int.pow_pos (by omega)
 have hs:(2:Int) ^ (7 * (g+1))=2 ^ (7 * g) * 128:=by rw [Nat.mul_add,Int.pow_add];rfl
 have hc0:0≤c * 2 ^ (7 * g):=Int.mul_nonneg c0 (by omega)
 have hb:v+c * 2 ^ (7 * g)≤18446744073709551615:=by
  rcases hg with hg|⟨rfl,hc⟩
  ·have hp : (2 : Int) ^ (7 * g) ≤ 2 ^ 56 := by
    have:(2:Nat) ^ (7 * g)≤2 ^ 56:=Nat.pow_le_pow_right (by omega) (by omega)
    exact_mod_cast this
   have:c * 2 ^ (7 * g)≤127 * 2 ^ (7 * g):=Int.mul_le_mul_of_nonneg_right (by omega) (by omega)
   omega
  ·have:c * 2 ^ (7 * 9)≤1 * 2 ^ (7 * 9):=Int.mul_le_mul_of_nonneg_right (by omega) (by omega)
   omega
 have hw:IntKind.u64.wrap (c * 2 ^ (7 * g))=c * 2 ^ (7 * g):=IntWalk.u64_in _ (by omega)
 refine ⟨by rw [hw];exact zpv h0 h1 c0 hb,by omega,hb,?_⟩
 have:c * 2 ^ (7 * g)≤127 * 2 ^ (7 * g):=Int.mul_le_mul_of_nonneg_right (by omega) (by omega)
 rw [hs]
 omega
end Go.Proofs.YtponpgcpmlcdpaaGreatDoor.Bt
