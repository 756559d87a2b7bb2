import Derived.Test.YtponpgcpmlcdpaaGreatDoorBK
namespace Go.Proofs.YtponpgcpmlcdpaaGreatDoor
open Go.RowKit
def SeqG {α : Type} (F : Fence) (n : Nat) (P : Program) (g : Nat) (lb : Array Value) (encs : α → Array Value) (Y : List α → α → World → World → Prop) (Mv Kp : World → World → Prop)
  (S Sp:List α→Prop) (w:World):Prop :=
 ∀(l:Nat) (J Jx:List α→World→Prop) (W:World),Below w.heap.size w W →
  (∀s A B,J s A→Mv A B→J s B)→(∀s A B,Jx s A→Mv A B→Jx s B) →
  (∀ pre x A0 A, J pre A0 → Mv A0 A → Y pre x A0 A → YieldAt F (n - 1) P l (encs x) A fun e B =>
    (e = .returned (.bool true)∧J (pre++[x]) B∧Kp A B)∨(e = .returned (.bool false)∧Jx (pre++[x]) B)) →
  J [] W →
  CallsIn F n P g (#[.func (.yield l) #[] #[]]++lb) W fun e B=>(∃v,e = .returned v)∧((∃xs,S xs∧J xs B)∨(∃pre,Sp pre∧Jx pre B))
variable {F:Fence} {n:Nat} {P:Program}
theorem zg5 {w : World} {ops : Array Oper} {rest : List Oper} {o : Oper} {a : Act} {Q : Exit → Act → World → Prop} (hgd : o.guard = none) (s x : Operand) (t : TypeId)
  (ho:o.op = .call { callee:=.builtin .append,args := #[s,x],argTypes := #[t,t] })
  (base:Nat) (e:TypeId) (i:TypeInfo) (z:Value) (bytes:Nat) (ht:P.underlying t=some (.slice e)) (hi:P.info? e=some i) (hz:i.zero=some z)
  (hsize:i.size=1) (hby:i.bytes=bytes) (hzs:z.cells.size=1)
  (v:Value) (k:Nat) (xs:List Value) (hs:a.eval s=v) (hown:w.ownsRow base e 1 v k xs)
  (B:Nat) (A:Option Addr) (m c:Nat) (news:List Value) (hx:a.eval x = .slice A m c) (hm:news.length=m) (hr:Rd w B A news) (h1:∀u∈news,u.oneCell'=true)
  (h63:k+m≤maxLen) (hbytes:(k+m) * bytes≤140737488355328) (hbase:base≤w.heap.size)
  (h:∀v' w',w'.ownsRow base e 1 v' (k+m) (xs++news)→w.grownBy w' v.ownBlock→(v'.ownBlock=v.ownBlock∨v'.ownBlock=some w.heap.size)→wpListIn F n P ops Q rest (a.put o.dst v') w'):wpListIn F n P ops Q (o::rest) a w:=by
 refine wpListIn_plain hgd fun K hK => ?_
 obtain ⟨v',w',hrun,h2,h3,h4⟩:=zh5 (P:=P) w base t o.type e i z bytes ht hi hz hsize hby hzs v k xs hown B A m c news hm hr h1 h63 hbytes hbase
 unfold Oper.wpIn
 refine ⟨by simp [Oper.about,ho,resolve,Target.leads,Sem.run_pure],?_⟩
 rw [Oper.semAt_plain F _ _ (by rw [ho];intro c hc';cases hc')]
 simp [execOp,ho,resolve,invoke,builtin,hs,hx,hrun,Result.andThen]
 exact hK _ _ (h v' w' h2 h3 h4)
theorem zfw {α : Type} {g : Operand} {ps : Array Tmp} {assign body : Code} {Q : Exit → Act → World → Prop} {a : Act} {w : World}
  (hro:F.round=none) (h1:1≤n) {gf:Nat} {lb:Array Value} (hg:a.eval g = .func (.func gf) #[] lb) (hFg:F.fn gf)
  (eg:∀args w,(callFunc gf args).run P w = .ok (.enter gf args) w)
  {encs:α→Array Value} {Y:List α→α→World→World→Prop} {Mv Kp:World→World→Prop} {S Sp:List α→Prop} {w0:World} (hseq:SeqG F (n - 1) P gf lb encs Y Mv Kp S Sp w0)
  (hb0:Below w0.heap.size w0 w) (hps:∀x,(encs x).size=ps.size)
  (hM:∀A B,Mv A B→∀k o,w.heap.size≤k→A.heap[k]? = some o→o.isCells=false→B.heap[k]? = some o)
  (hKt:∀A B C,Kp A B→Kp B C→Kp A C)
  (hKb:∀(A:World) (k:Nat) (o o':Obj),w.heap.size≤k→A.heap[k]? = some o→o.isCells=false→Kp A (A.putObj k o'))
  (hKa:∀A B:World,w.heap.size≤A.heap.size→Below A.heap.size A B→Kp A B)
  (I:List α→World→Prop) (Ix:Code→List α→World→Prop) (hI:OwnFrom w.heap.size I) (hIx:∀c,OwnFrom w.heap.size (Ix c))
  (hIM:∀s A B,I s A→Mv A B→I s B) (hIxM:∀c s A B,Ix c s A→Mv A B→Ix c s B)
  (h0:I [] w) (Asg:α→World→World→Prop) (a₁:α→World→Act)
  (hassign : ∀ (l : Nat) (x : α) (W : World) (K : Act → World → Prop), (∀ W1, Below W.heap.size W W1 → Asg x W W1 → K (a₁ x W) W1) →
    assign.wpIn (F.inRound l) (n - 1 - 1) P (Exit.then K (fun _ _ _=>False)) { tmps:=(ps.zip (encs x)).foldl (fun t (p,v)=>t.setIfInBounds p v) a.tmps,defers:=[] } W)
  (hbody : ∀ (l : Nat) (pre : List α) (x : α) (A0 A A1 : World) (k : Nat) (o o' : Obj), I pre A0 → Mv A0 A → Y pre x A0 A → Below A.heap.size A A1 → Asg x A A1 → w.heap.size ≤ k → k < A.heap.size → A1.heap[k]? = some o → o.isCells = false →
    body.wpIn (F.inRound l) (n - 1 - 1) P (ownPostG w.heap.size Kp I Ix (pre++[x]) (A1.putObj k o')) (a₁ x A) (A1.putObj k o'))
  (hdone:∀(D:Nat) (xs:List α) (W:World),w.heap.size≤D→S xs→I xs W→W.heap[D]? = some (.deferred (some []))→Q .normal { a with defers:={ target:=.collected D,args := #[] }::a.defers } W)
  (hstop:∀(D:Nat) (c:Code) (pre:List α) (W:World),w.heap.size≤D→Sp pre→Ix c pre W→W.heap[D]? = some (.deferred (some []))→c.wpIn F n P Q { a with defers:={ target:=.collected D,args := #[] }::a.defers } W) :
  (Code.rangeFunc g ps assign body).wpIn F n P Q a w:=by
 refine wpIn_rangeFunc fun fn hfn => ?_
 rw [hro]
 generalize hD:w.heap.size=D at *
 let R (st:LoopState) (pe:Option Code):Obj:=.loop { state:=st,pending:=pe,fn,tmps:=a.tmps,params:=ps,assign,body,defers:=D }
 let W1:World:=(w.alloc (.deferred (some []))).alloc (R .ready none)
 have sz:W1.heap.size=D+2:=by simp [W1,hD]
 have hR1:W1.heap[D+1]? = some (R .ready none):=by
  have h:=World.alloc_heap_new (w.alloc (.deferred (some []))) (R .ready none)
  rwa [World.size_alloc,hD] at h
 have hD1:W1.heap[D]? = some (.deferred (some [])):=by
  have h:=World.alloc_heap_new w (.deferred (some []))
  rw [hD] at h
  exact (Below.heap_alloc _ _ _ (by simp [hD])).trans h
 let J (s:List α) (W:World):Prop:=I s W∧W.heap[D+1]? = some (R .ready none)∧W.heap[D]? = some (.deferred (some []))
 let Jx (s:List α) (W:World):Prop:=∃c,Ix c s W∧W.heap[D+1]? = some (R .done (some c))∧W.heap[D]? = some (.deferred (some []))
 have hJM:∀s A B,J s A→Mv A B→J s B:=fun s A B h m =>
  ⟨hIM s A B h.1 m,hM A B m _ _ (by omega) h.2.1 rfl,hM A B m _ _ (Nat.le_refl _) h.2.2 rfl⟩
 have hJxM:∀s A B,Jx s A→Mv A B→Jx s B:=fun s A B ⟨c,h,h2,h3⟩ m =>
  ⟨c,hIxM c s A B h m,hM A B m _ _ (by omega) h2 rfl,hM A B m _ _ (Nat.le_refl _) h3 rfl⟩
 have hJ1:J [] W1:=⟨hI.alloc _ (hI.alloc _ h0),hR1,hD1⟩
 have hb1:Below w0.heap.size w0 W1:=hb0.trans ((((Below.refl _ w).alloc (Nat.le_refl _) _).alloc (by simp) _).mono hb0.size)
 have henter:=run_enterLoop_outer (P:=P) (w:=w) fn a.tmps ps assign body
 rw [hD] at henter
 refine ⟨D+1,[{ target:=.collected D,args := #[] }],W1,{ target:=.fn (.func gf) lb,args := #[.func (.yield (D+1)) #[] #[]] },W1,gf,
  #[.func (.yield (D+1)) #[] #[]]++lb,W1,henter,?_,?_,?_,fun _=>h1,?_⟩
 ·simp only [resolve,hg]
  simp [go_sem]
 ·intro f' hf'
  simp [Target.leads] at hf'
  subst hf'
  exact hFg
 ·simp [invoke,go_sem,eg]
 refine (hseq (D+1) J Jx W1 hb1 hJM hJxM ?_ hJ1).mono ?_
 ·
  rintro pre x A0 W ⟨hi,hl0,hk0⟩ hmv hY
  have hl:W.heap[D+1]? = some (R .ready none):=hM A0 W hmv _ _ (by omega) hl0 rfl
  have hk:W.heap[D]? = some (.deferred (some [])):=hM A0 W hmv _ _ (Nat.le_refl _) hk0 rfl
  have hlt:D+1 < W.heap.size:=(Array.getElem?_eq_some_iff.1 hl).1
  refine ⟨fn,_,assign,body,run_yield (P:=P) (args:=encs x) hl (hps x),roundIn_of_wpIn hfn (hassign _ x W _ fun V hV hA => ?_)⟩
  have hlV:V.heap[D+1]? = some (R .ready none):=(hV.block _ hlt).trans hl
  have hkV:V.heap[D]? = some (.deferred (some [])):=(hV.block _ (by omega)).trans hk
  have hltV:D+1 < V.heap.size:=(Array.getElem?_eq_some_iff.1 hlV).1
  refine ⟨_,run_beginRound hlV rfl,?_⟩
  let W2:World:=V.putObj (D+1) (R .busy none)
  have hl2:W2.heap[D+1]? = some (R .busy none):=World.putObj_heap_same hltV
  have hk2:W2.heap[D]? = some (.deferred (some [])):=(World.putObj_heap_other (by omega)).trans hkV
  have hK2:Kp W W2:=hKt _ _ _ (hKa W V (by omega) hV) (hKb _ _ _ _ (by omega) hlV rfl)
  refine wpIn_mono (hbody _ pre x A0 W V (D+1) (R .ready none) (R .busy none) hi hmv hY hV hA (by omega) hlt hlV rfl) ?_
  have fin : ∀ (jump : Option Code) (W3 : World), KeepsFrom D W2 W3 →
    W3.heap[D+1]? = some (R .busy none) ∧
    (Instr.endRound (D+1) jump).run P W3 = .ok (.bool jump.isNone) (W3.putObj (D+1) (R (if jump.isNone then .ready else .done) jump)) ∧
    (W3.putObj (D+1) (R (if jump.isNone then .ready else .done) jump)).heap[D+1]? = some (R (if jump.isNone then .ready else .done) jump) ∧
    (W3.putObj (D+1) (R (if jump.isNone then .ready else .done) jump)).heap[D]? = some (.deferred (some [])):=fun jump W3 h3=>by
   have hl3:=h3.same _ _ (by omega) hl2 rfl
   exact ⟨hl3,run_endRound (P:=P) jump hl3,World.putObj_heap_same (Array.getElem?_eq_some_iff.1 hl3).1,
    (World.putObj_heap_other (by omega)).trans (h3.same _ _ (Nat.le_refl _) hk2 rfl)⟩
  intro e a3 W3 hp
  cases e with
  | normal =>
    obtain ⟨h3,hkp,hi3⟩:=hp
    obtain ⟨hl3,hr,hl4,hk4⟩:=fin none W3 h3
    exact ⟨_,_,hr,.inl ⟨rfl,⟨hI.putObj _ hi3 (by omega) hl3 rfl,hl4,hk4⟩,hKt _ _ _ (hKt _ _ _ hK2 hkp) (hKb _ _ _ _ (by omega) hl3 rfl)⟩⟩
  | ret =>
    obtain ⟨h3,hi3⟩:=hp
    obtain ⟨hl3,hr,hl4,hk4⟩:=fin (some .ret) W3 h3
    exact ⟨_,_,hr,.inr ⟨rfl,.ret,(hIx _).putObj _ hi3 (by omega) hl3 rfl,hl4,hk4⟩⟩
  | exit id =>
    obtain ⟨h3,hi3⟩:=hp
    obtain ⟨hl3,hr,hl4,hk4⟩:=fin (some (.exit id)) W3 h3
    exact ⟨_,_,hr,.inr ⟨rfl,.exit id,(hIx _).putObj _ hi3 (by omega) hl3 rfl,hl4,hk4⟩⟩
  | goto t =>
    obtain ⟨h3,hi3⟩:=hp
    obtain ⟨hl3,hr,hl4,hk4⟩:=fin (some (.goto t)) W3 h3
    exact ⟨_,_,hr,.inr ⟨rfl,.goto t,(hIx _).putObj _ hi3 (by omega) hl3 rfl,hl4,hk4⟩⟩
  |panic ch=>exact hp.elim
  |outgrown=>exact hp.elim
 ·
  rintro e W2 ⟨⟨v,rfl⟩,(⟨xs,hS,hi,hl,hk⟩|⟨pre,hSp,c,hi,hl,hk⟩)⟩
  ·exact ⟨none,_,run_endLoop (P:=P) hl (by simp),hdone D xs _ (Nat.le_refl _) hS (hI.putObj _ hi (by omega) hl rfl) ((World.putObj_heap_other (by omega)).trans hk)⟩
  ·exact ⟨some c,_,run_endLoop (P:=P) hl (by simp),hstop D c pre _ (Nat.le_refl _) hSp ((hIx c).putObj _ hi (by omega) hl rfl) ((World.putObj_heap_other (by omega)).trans hk)⟩
end Go.Proofs.YtponpgcpmlcdpaaGreatDoor
