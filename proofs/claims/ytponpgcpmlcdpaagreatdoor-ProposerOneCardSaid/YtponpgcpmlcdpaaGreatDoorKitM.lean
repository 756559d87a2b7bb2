import Derived.Test.YtponpgcpmlcdpaaGreatDoorBK
import Derived.Deep.MidRow
import Derived.Deep.WholeRow
namespace Go.Proofs.YtponpgcpmlcdpaaGreatDoor.Km
open Go.RowKit Go.Shelf
def Fr (base:Nat) (A:Option Addr):Prop:=∀ad,A=some ad→base≤ad.block
theorem Fr.none {base:Nat}:Fr base none:=fun _ h=>by cases h
theorem Fr.mono {base base':Nat} {A:Option Addr} (h:Fr base A) (hb:base'≤base):Fr base' A:=fun ad e=>Nat.le_trans hb (h ad e)
theorem zji {w:World} {base:Nat} {e:TypeId} {A:Option Addr} {m c n:Nat} {xs:List Value} (h:w.ownsRow base e 1 (.slice A m c) n xs):Fr base A:=fun ad ha=>by
 subst ha
 rcases h.2 with ⟨h1,_⟩|⟨g,cap,cur,h1,hb,_⟩
 ·cases h1
 ·cases h1;exact hb
theorem zbw {P : Program} {a : Act} {o : Oper} {w : World} (ty : TypeId) (x : Operand) (ho : o.op = .load ty x) (b : Nat) (hx : a.eval x = .pointer (some ⟨b, 0, none⟩)) (cs : List Value) (d : TypeDesc) (hr : w.rangeAt b 0 cs)
  (hu:P.underlying ty=some d) (hd:d.isRow=true) (hi:(P.info? ty).map (·.size)=some cs.length):(execOp a.eval o).run P w = .ok (.value (.agg cs.toArray)) w:=by
 unfold execOp
 simp only [ho,hx,Instr.loadAt,Instr.sureAddr,Sem.run_bind,Sem.run_pure,Result.andThen_ok,run_loadVar_mid w b 0 ty cs d hr hu hd hi]
theorem zdj {P : Program} {ops : Array Oper} {rest : List Oper} {op : Oper} {a : Act} {w : World} {Q : Exit → Act → World → Prop} (ty : TypeId) (x : Operand) (ho : op.op = .load ty x)
  (b o:Nat) (hx:a.eval x = .pointer (some ⟨b,o,none⟩)) (cs:List Value) (d:TypeDesc) (hc:w.rangeAt b o cs) (hu:P.underlying ty=some d) (hd:d.isRow=true) (hi:(P.info? ty).map (·.size)=some cs.length)
  (hn:Region.wanted op (yielded ops a.tmps)=true) (h:wpList P ops Q rest (a.put op.dst (.agg cs.toArray)) w):wpList P ops Q (op::rest) a w :=
 wpList_step fun K hK=>by
  simp only [hn,if_true]
  exact wp_load_mid ty x ho b o hx cs d hc hu hd hi (hK _ _ h)
theorem zbm {P : Program} {ops : Array Oper} {rest : List Oper} {op : Oper} {a : Act} {w : World} {Q : Exit → Act → World → Prop} (hgd : op.guard = none) (ty : TypeId) (x y : Operand) (ho : op.op = .store ty x y)
  (c c':Array Value) (hx:a.eval x = .pointer (some ⟨w.heap.size,0,none⟩)) (hy:a.eval y = .agg c') (hi:(P.info? ty).map (·.size)=some c'.size) (hs:c.size=c'.size) (h1:c'.all (·.oneCell')=true)
  (h:wpList P ops Q rest (a.put op.dst undef) (w.alloc (.cells c' ty))):wpList P ops Q (op::rest) a (w.alloc (.cells c ty)) :=
 wpList_plain hgd fun _ hK=>by
  unfold Oper.wp execOp
  simp only [ho,hx,hy,Sem.run_bind,run_storeAt_new (P:=P) w ty c c' hi hs h1,Result.andThen_ok,Sem.run_pure]
  exact hK _ _ h
theorem za6 (b:Nat):∀(vs:List Value) (o:Nat) (W:World),W.grownBy (W.setCells b o vs) (some b)
 | [],_,W=>⟨rfl,rfl,rfl,Nat.le_refl _,fun _ _ _=>rfl⟩
 | v :: r, o, W => by
   rw [World.setCells]
   have h1:W.grownBy (W.setCell ⟨b,o,none⟩ v) (some b):=⟨rfl,rfl,rfl,(KeepsWalks.setCell W _ v).size,fun k _ hk=>Below.heap_setCell _ _ _ k (fun e=>hk (by rw [e]))⟩
   exact h1.trans (za6 b r (o+1) _)
theorem zbj (b o:Nat) (v:Value) (W:World):W.grownBy (W.setCell ⟨b,o,none⟩ v) (some b) :=
 ⟨rfl,rfl,rfl,(KeepsWalks.setCell W _ v).size,fun k _ hk=>Below.heap_setCell _ _ _ k (fun e=>hk (by rw [e]))⟩
theorem zdo {w w':World} {base:Nat} {e:TypeId} {v:Value} {n b:Nat} {xs:List Value} (h:w.ownsRow base e 1 v n xs) (hg:w.grownBy w' (some b)) (hb:b < base):w'.ownsRow base e 1 v n xs:=by
 refine h.kept hg ?_
 cases hv:v.ownBlock with
 |none=>exact .inl rfl
 |some k=>exact .inr (fun e=>by injection e with e;have:=(h.lt k hv).1;omega)
theorem below_grown {B b:Nat} {w0 w w':World} (h:Below B w0 w) (hg:w.grownBy w' (some b)) (hb:B≤b) (hB:B≤w.heap.size):Below B w0 w' :=
 h.grown hg hB (fun k hk=>by injection hk with hk;omega)
theorem zdi (w:World) (cs:Array Value) (t:TypeId) {b j:Nat} (hb:b=w.heap.size):(w.alloc (.cells cs t)).frozen? ⟨b,j,none⟩=false:=by
 subst hb
 unfold World.frozen?
 rw [heap_alloc_new]
 simp
theorem zby (w:World) (cs:List Value) (t:TypeId):(w.alloc (.cells cs.toArray t)).there w.heap.size 0 cs.length:=fun j hj=>by
 obtain ⟨ad,e,_,hc⟩:=(Rd.new w (w.heap.size+1) cs t (0,0) (by omega)) j _ (List.getElem?_eq_getElem hj)
 cases e
 rw [Addr.add_mid] at hc
 exact ⟨by rw [hc];rfl,zdi _ _ _ rfl⟩
theorem za9 {w w':World} {b o n B:Nat} (h:w.there b o n) (hb:Below B w w') (hlt:b < B):w'.there b o n:=fun j hj=>by
 obtain ⟨t1,t2⟩:=h j hj
 have hl:(⟨b,o+j,none⟩ : Addr).block < B:=hlt
 exact ⟨by rw [hb.cell hl];exact t1,by rw [hb.frozen hl];exact t2⟩
theorem zfe {w:World} {base:Nat} {e:TypeId} {g n cap:Nat} {xs:List Value} (h:w.ownsRow base e 1 (.slice (some ⟨g,0,none⟩) n cap) n xs):w.rangeAt g 0 xs:=fun j v hv=>by
 have:=h.cells (g:=g) rfl j v hv
 rw [Addr.add_mid] at this
 exact this
theorem zje {w:World} {b o:Nat} {xs ys zs:List Value} (h:w.rangeAt b o (xs++(ys++zs))):w.rangeAt b (o+xs.length) ys:=fun j v hv=>by
 have hj:=(List.getElem?_eq_some_iff.1 hv).1
 have:=h (xs.length+j) v (by rw [List.getElem?_append_right (Nat.le_add_right _ _),Nat.add_sub_cancel_left,List.getElem?_append_left hj];exact hv)
 rw [←Nat.add_assoc] at this
 exact this
theorem zdf {w w':World} {b o B:Nat} {cs:List Value} (h:w.rangeAt b o cs) (hb:Below B w w') (hB:b < B):w'.rangeAt b o cs:=fun j v hv=>by
 rw [hb.cell (by exact hB)];exact h j v hv
theorem zct (w:World) (cs:List Value) (t:TypeId):(w.alloc (.cells cs.toArray t)).rangeAt w.heap.size 0 cs:=fun j v hv=>by
 obtain ⟨ad,e,_,hc⟩:=(Rd.new w (w.heap.size+1) cs t (0,0) (by omega)) j v hv
 cases e
 rw [Addr.add_mid] at hc
 exact hc
theorem ze0 {w:World} {b:Nat} {cs:List Value} (h:w.rangeAt b 0 cs) (j:Nat) {v:Value} (hv:cs[j]? = some v):w.cell? ⟨b,j,none⟩=some v:=by
 have:=h j v hv
 rwa [Nat.zero_add] at this
theorem zij (w:World) (o o':Obj) {b:Nat} (h:b=w.heap.size):((w.alloc o).alloc o').heap[b]? = some o:=by
 subst h
 rw [Below.heap_alloc _ _ _ (by rw [World.size_alloc];omega)]
 exact World.alloc_heap_new w o
theorem wpList_build {P : Program} {w : World} {ops : Array Oper} {rest : List Oper} {o : Oper} {a : Act} {Q : Exit → Act → World → Prop} (hgd : o.guard = none) (t : TypeId) (parts : Array (Nat × Operand)) (ho : o.op = .build t parts)
  (vs:Array (Nat×Value)) (hv:(parts.map fun p=>(p.1,a.eval p.2))=vs) (cells:Array Value) (hb:P.built t vs.toList=some cells) (h:wpList P ops Q rest (a.put o.dst (.agg cells)) w):wpList P ops Q (o::rest) a w :=
 wpList_plain hgd fun K hK=>by
  unfold Oper.wp execOp
  simp only [ho]
  have hr:=run_build (P:=P) w t vs cells hb
  have hv':(parts.map fun (i,x)=>(i,a.eval x))=vs:=hv
  rw [hv',Sem.run_bind,hr]
  exact hK _ _ h
theorem zcr {P : Program} {a : Act} {o : Oper} {w : World} (t : TypeId) (parts : Array (Nat × Operand)) (ho : o.op = .build t parts) (vs : Array (Nat × Value)) (hv : (parts.map fun p => (p.1, a.eval p.2)) = vs) (cells : Array Value)
  (hb:P.built t vs.toList=some cells):(execOp a.eval o).run P w = .ok (.value (.agg cells)) w:=by
 unfold execOp
 simp only [ho]
 have hr:=run_build (P:=P) w t vs cells hb
 have hv':(parts.map fun (i,x)=>(i,a.eval x))=vs:=hv
 rw [hv',Sem.run_bind,hr]
 rfl
theorem zep {P : Program} {fn : Func} {p : Tmp} {ty : TypeId} (h : fn.results = #[.cell p ty]) (tmps : Array Value) (w : World) (b : Nat) (cs : List Value) (d : TypeDesc)
  (hp:tmps.getD p undef = .pointer (some ⟨b,0,none⟩)) (hr:w.rangeAt b 0 cs) (hu:P.underlying ty=some d) (hd:d.isRow=true) (hi:(P.info? ty).map (·.size)=some cs.length) :
  (results fn tmps).run P w = .ok (.agg cs.toArray) w:=by
 have hp':tmps[p]?.getD undef = .pointer (some ⟨b,0,none⟩):=by simpa using hp
 simp [results,h,hp',asAddr,run_loadVar_mid w b 0 ty cs d hr hu hd hi]
theorem zcy {P : Program} {fn : Func} {p u v : Tmp} {ty : TypeId} (h : fn.results = #[.cell p ty, .tmp u, .tmp v]) (tmps : Array Value) (w : World) (b : Nat) (cs : List Value) (d : TypeDesc)
  (hp:tmps.getD p undef = .pointer (some ⟨b,0,none⟩)) (hr:w.rangeAt b 0 cs) (hu:P.underlying ty=some d) (hd:d.isRow=true) (hi:(P.info? ty).map (·.size)=some cs.length) :
  (results fn tmps).run P w = .ok (.tuple #[.agg cs.toArray,tmps.getD u undef,tmps.getD v undef]) w:=by
 have hp':tmps[p]?.getD undef = .pointer (some ⟨b,0,none⟩):=by simpa using hp
 simp [results,h,hp',asAddr,run_loadVar_mid w b 0 ty cs d hr hu hd hi]
theorem zbd {P : Program} {fn : Func} {p u : Tmp} {ty : TypeId} (h : fn.results = #[.cell p ty, .tmp u]) (tmps : Array Value) (w : World) (b : Nat) (cs : List Value) (d : TypeDesc)
  (hp:tmps.getD p undef = .pointer (some ⟨b,0,none⟩)) (hr:w.rangeAt b 0 cs) (hu:P.underlying ty=some d) (hd:d.isRow=true) (hi:(P.info? ty).map (·.size)=some cs.length) :
  (results fn tmps).run P w = .ok (.tuple #[.agg cs.toArray,tmps.getD u undef]) w:=by
 have hp':(asAddr (tmps.getD p undef)).run P w = .ok ⟨b,0,none⟩ w:=by rw [hp];rfl
 rw [results_cell_tmp h,hp',Result.andThen_ok,run_loadVar_mid w b 0 ty cs d hr hu hd hi,Result.andThen_ok]
theorem zbf {w w':World} (h:Below w.heap.size w w') (row:Option Nat):w.grownBy w' row:=⟨h.os,h.tape,h.output,h.size,fun k hk _=>h.block k hk⟩
theorem zfg {P : Program} {op : Oper} {a : Act} {w : World} {K : Act → World → Prop} {Q : Exit → Act → World → Prop} (ty : TypeId) (x y : Operand) (ho : op.op = .store ty x y)
  (b o:Nat) (cells:Array Value) (hx:a.eval x = .pointer (some ⟨b,o,none⟩)) (hy:a.eval y = .agg cells) (ht:w.there b o cells.size) (hi:(P.info? ty).map (·.size)=some cells.size) (h1:cells.all (·.oneCell')=true)
  (h:K (a.put op.dst undef) (w.setCells b o cells.toList)):op.wp P a w K Q:=wp_store_mid ty x y ho b o cells hx hy ht hi h1 h
theorem zcb {w w':World} {b b' o:Nat} {cs:List Value} (h:w.rangeAt b o cs) (hg:w.grownBy w' (some b')) (hb:b'≠b) (hlt:b < w.heap.size):w'.rangeAt b o cs:=fun j v hv=>by
 rw [World.cell?_of_block (hg.block b hlt (fun e=>hb (by injection e with e;exact e.symm)))];exact h j v hv
theorem zb0 {w w':World} {b b' o n:Nat} (h:w.there b o n) (hg:w.grownBy w' (some b')) (hb:b'≠b) (hlt:b < w.heap.size):w'.there b o n:=fun j hj=>by
 rw [World.cell?_of_block (hg.block b hlt (fun e=>hb (by injection e with e;exact e.symm))),World.frozen?_of_block (hg.block b hlt (fun e=>hb (by injection e with e;exact e.symm)))];exact h j hj
theorem zgy {w w' w'':World} {row:Option Nat} {b:Nat} (h:w.grownBy w' row) (hg:w'.grownBy w'' (some b)) (hb:w.heap.size≤b):w.grownBy w'' row :=
 ⟨hg.os.trans h.os,hg.tape.trans h.tape,hg.output.trans h.output,Nat.le_trans h.size hg.size,fun k hk hne=>(hg.block k (Nat.lt_of_lt_of_le hk h.size) (fun e=>by injection e with e;omega)).trans (h.block k hk hne)⟩
theorem zff {w:World} {b o:Nat} {xs ys:List Value} (h1:w.rangeAt b o xs) (h2:w.rangeAt b (o+xs.length) ys):w.rangeAt b o (xs++ys):=fun j v hv=>by
 by_cases hj:j < xs.length
 ·rw [List.getElem?_append_left hj] at hv
  exact h1 j v hv
 ·rw [List.getElem?_append_right (by omega)] at hv
  have:=h2 (j - xs.length) v hv
  rwa [show o+xs.length+(j - xs.length)=o+j from by omega] at this
theorem zer {w:World} {b o:Nat} {xs ys:List Value} (h:w.rangeAt b o (xs++ys)):w.rangeAt b o xs:=fun j v hv=>h j v (by rw [List.getElem?_append_left (List.getElem?_eq_some_iff.1 hv).1];exact hv)
theorem zeq {w:World} {b o:Nat} {xs ys:List Value} (h:w.rangeAt b o (xs++ys)):w.rangeAt b (o+xs.length) ys:=fun j v hv=>by
 have:=h (xs.length+j) v (by rw [List.getElem?_append_right (Nat.le_add_right _ _),Nat.add_sub_cancel_left];exact hv)
 rwa [←Nat.add_assoc] at this
theorem zc7 {w : World} {b o p : Nat} {xs ys zs cs : List Value} (h : w.rangeAt b o (xs ++ (ys ++ zs))) (hp : o + xs.length = p) (hl : ys.length = cs.length) (ht : w.there b p cs.length) :
  (w.setCells b p cs).rangeAt b o (xs++(cs++zs)):=by
 subst hp
 refine zff (World.rangeAt_setCells_apart (zer h) b _ cs (.inr (.inl (Nat.le_refl _)))) (zff (World.rangeAt_setCells_same w b _ cs ht) ?_)
 have h2:=zeq (zeq h)
 rw [hl] at h2
 exact World.rangeAt_setCells_apart h2 b _ cs (.inr (.inr (Nat.le_refl _)))
theorem zb6 {w:World} {b o n p m:Nat} (h:w.there b o n) (h1:o≤p) (h2:p+m≤o+n):w.there b p m:=fun j hj=>by
 have:=h (p - o+j) (by omega)
 rwa [show o+(p - o+j)=p+j from by omega] at this
theorem zlt {P : Program} {a : Act} {o : Oper} {w : World} (ty : TypeId) (x : Operand) (ho : o.op = .load ty x) (b k : Nat) (hx : a.eval x = .pointer (some ⟨b, k, none⟩)) (cs : List Value) (d : TypeDesc) (hr : w.rangeAt b k cs)
  (hu:P.underlying ty=some d) (hd:d.isRow=true) (hi:(P.info? ty).map (·.size)=some cs.length):(execOp a.eval o).run P w = .ok (.value (.agg cs.toArray)) w:=by
 unfold execOp
 simp only [ho,hx,Instr.loadAt,Instr.sureAddr,Sem.run_bind,Sem.run_pure,Result.andThen_ok,run_loadVar_mid w b k ty cs d hr hu hd hi]
theorem zqr {P : Program} {Q : Exit → Act → World → Prop} {K : Act → World → Prop} {w : World} {a : Act} {o : Oper} (s x : Operand) (t : TypeId) (ho : o.op = .call { callee := .builtin .append, args := #[s, x], argTypes := #[t, t] })
  (base:Nat) (e:TypeId) (i:TypeInfo) (z:Value) (bytes:Nat) (ht:P.underlying t=some (.slice e)) (hi:P.info? e=some i) (hz:i.zero=some z) (hsize:i.size=1) (hby:i.bytes=bytes) (hzs:z.cells.size=1)
  (v:Value) (n:Nat) (xs:List Value) (hs:a.eval s=v) (hown:w.ownsRow base e 1 v n xs)
  (B:Nat) (A:Option Addr) (m c:Nat) (news:List Value) (hx:a.eval x = .slice A m c) (hm:news.length=m) (hr:Rd w B A news) (h1:∀u∈news,u.oneCell'=true)
  (h63:n+m≤maxLen) (hbytes:(n+m) * bytes≤140737488355328) (hbase:base≤w.heap.size)
  (h:∀v' w',w'.ownsRow base e 1 v' (n+m) (xs++news)→w.grownBy w' v.ownBlock→(v'.ownBlock=v.ownBlock∨v'.ownBlock=some w.heap.size)→K (a.put o.dst v') w'):o.wp P a w K Q:=by
 obtain ⟨v',w',hrun,h2,h3,h4⟩:=zh5 (P:=P) w base t o.type e i z bytes ht hi hz hsize hby hzs v n xs hown B A m c news hm hr h1 h63 hbytes hbase
 unfold Oper.wp execOp
 simp only [ho,resolve,invoke,builtin,Sem.run_bind,Sem.run_pure,Result.andThen_ok,List.map_toArray,List.map_cons,List.map_nil,hs,hx,hrun]
 exact h v' w' h2 h3 h4
end Go.Proofs.YtponpgcpmlcdpaaGreatDoor.Km
