import Derived.Test.YtponpgcpmlcdpaaGreatDoorBK
namespace Go.Proofs.YtponpgcpmlcdpaaGreatDoor
open Go
section
variable {P:Program} {ops:Array Oper} {md:Region.Mode} {Q:Exit→Act→World→Prop} {C:World→Prop} {D:Nat→Bool}
def reaches (md:Region.Mode) (ops:Array Oper) (i:Nat):Nat→Nat→Bool
 |0,j=>j == i
 |f+1,j=>j == i || (match ops[j]? with|some oj=>oj.after.toList.any (fun e=>Region.binds md e&&reaches md ops i f e.on)|none=>false)
def zm9 (md:Region.Mode) (ops:Array Oper) (listed:Array Bool):Bool :=
 (List.range ops.size).all fun j => !listed.getD j true || (match ops[j]? with|some oj=>oj.after.toList.all (fun e => !Region.binds md e || listed.getD e.on true)|none=>true)
def zkz (md:Region.Mode) (ops:Array Oper) (D:Nat→Bool) (i:Nat):Bool :=
 !D i&&(List.range ops.size).all fun j => !D j || reaches md ops i ops.size j
def zky (md:Region.Mode) (ops:Array Oper) (listed:Array Bool):Prop:=∀j oj,ops[j]? = some oj→listed.getD j true=true→∀e∈oj.after,Region.binds md e=true→listed.getD e.on true=true
theorem zlx {listed:Array Bool} (h:zm9 md ops listed=true):zky md ops listed:=fun j oj hj hl e he hb=>by
 unfold zm9 at h
 rw [List.all_eq_true] at h
 have h2:=h j (List.mem_range.2 (Array.getElem?_eq_some_iff.1 hj).1)
 rw [hl,hj] at h2
 simp only [Bool.not_true,Bool.false_or,List.all_eq_true] at h2
 have h3:=h2 e (by simpa using he)
 rw [hb] at h3
 simpa using h3
theorem zei {listed:Array Bool} (hc:zky md ops listed) {i:Nat}:∀(f j:Nat),reaches md ops i f j=true→listed.getD j true=true→listed.getD i true=true
 | 0, j, h, hl => by
   have:j=i:=by simpa [reaches] using h
   rw [←this];exact hl
 | f + 1, j, h, hl => by
   unfold reaches at h
   rw [Bool.or_eq_true] at h
   rcases h with h|h
   ·have:j=i:=by simpa using h
    rw [←this];exact hl
   ·cases hj:ops[j]? with
    |none=>rw [hj] at h;cases h
    | some oj =>
      rw [hj] at h
      simp only [List.any_eq_true,Bool.and_eq_true] at h
      obtain ⟨e,he,hb,hr⟩:=h
      exact zei hc f e.on hr (hc j oj hj hl e (by simpa using he) hb)
def doneD (ops:Array Oper) (D:Nat→Bool) (listed:Array Bool):Bool:=(List.range ops.size).any fun d=>D d&&listed.getD d false
theorem zlv {listed:Array Bool} {j:Nat} (h:doneD ops D listed=true):doneD ops D (listed.setIfInBounds j true)=true:=by
 unfold doneD at h ⊢
 rw [List.any_eq_true] at h ⊢
 obtain ⟨d,hd,h2⟩:=h
 rw [Bool.and_eq_true] at h2
 refine ⟨d,hd,?_⟩
 rw [Bool.and_eq_true]
 refine ⟨h2.1,?_⟩
 by_cases hdj:d=j
 ·subst hdj
  by_cases hlt:d < listed.size
  ·rw [Array.getD_eq_getD_getElem?,Array.getElem?_setIfInBounds_self_of_lt hlt];rfl
  ·have h3:=h2.2
   rw [Array.getD_eq_getD_getElem?,Array.getElem?_eq_none (Nat.le_of_not_lt hlt)] at h3
   cases h3
 ·rw [getD_set_ne false (Ne.symm hdj)];exact h2.2
theorem zgz {listed:Array Bool} {j:Nat} (hj:D j=false) (h:doneD ops D (listed.setIfInBounds j true)=true):doneD ops D listed=true:=by
 unfold doneD at h ⊢
 rw [List.any_eq_true] at h ⊢
 obtain ⟨d,hd,h2⟩:=h
 rw [Bool.and_eq_true] at h2
 refine ⟨d,hd,?_⟩
 rw [Bool.and_eq_true]
 refine ⟨h2.1,?_⟩
 have hdj:d≠j:=fun e=>by rw [e,hj] at h2;cases h2.1
 have h3:=h2.2
 rw [getD_set_ne false (Ne.symm hdj)] at h3
 exact h3
def InvF (ops:Array Oper) (C:World→Prop) (D:Nat→Bool) (listed:Array Bool) (w:World):Prop:=C w∨doneD ops D listed=true
def anyF (P:Program) (md:Region.Mode) (ops:Array Oper) (Q:Exit→Act→World→Prop) (C:World→Prop) (D:Nat→Bool):Nat→Array Bool→Act→World→Prop
 |0,listed,a,w=>Region.ready md ops listed=[]∧Q .normal a w
 | n + 1, listed, a, w => (Region.ready md ops listed = [] → Q .normal a w) ∧
    ∀i∈Region.ready md ops listed,wpOp P ops Q i (fun a' w'=>InvF ops C D (listed.setIfInBounds i true) w'∧anyF P md ops Q C D n (listed.setIfInBounds i true) a' w') a w
theorem zoe:∀(n:Nat) (listed:Array Bool) (a:Act) (w:World),anyF P md ops Q C D n listed a w→wpAny P md ops Q n listed a w
 |0,_,_,_,h=>h
 |n+1,_,_,_,h=>⟨h.1,fun i hi=>wpOp_mono (fun _ _ k=>zoe n _ _ _ k.2) (h.2 i hi)⟩
theorem zne {i : Nat} {oi : Oper} {v : Value} (hi : ops[i]? = some oi) (hs : ∀ (j : Nat) (o : Oper) cs b, ops[j]? = some o → o.op ≠ .select cs b)
  (hQ:∀c a w,Q (.panic c) (a.put oi.dst v) w→Q (.panic c) a w) (hwt:zkz md ops D i=true) :
  ∀(n:Nat) (listed:Array Bool) (a:Act) (w:World),C w→zky md ops listed →
   (∀j oj,ops[j]? = some oj→j≠i→listed.getD j true=false→(∀e∈oj.after,Region.binds md e=true→e.on≠i)→oi.apart ops oj=true) →
   i∈Region.ready md ops listed→zf6 C P ops oi v a→anyF P md ops Q C D n (listed.setIfInBounds i true) (a.put oi.dst v) w→anyF P md ops Q C D (n+1) listed a w:=by
 intro n
 induction n with
 | zero =>
   intro listed a w hw hcl hap hr hy h
   refine ⟨fun e=>absurd hr (by rw [e];exact List.not_mem_nil),fun j hj => ?_⟩
   by_cases e:j=i
   ·subst e;exact hy.here hi hw ⟨.inl hw,h⟩
   ·exact absurd (ready_mono hj e) (by rw [h.1];exact List.not_mem_nil)
 | succ n ih =>
   intro listed a w hw hcl hap hr hy h
   refine ⟨fun e=>absurd hr (by rw [e];exact List.not_mem_nil),fun j hj => ?_⟩
   by_cases e:j=i
   ·subst e;exact hy.here hi hw ⟨.inl hw,h⟩
   obtain ⟨hun,oj,hoj,hall⟩:=mem_ready.1 hj
   have hun2:=(mem_ready.1 hr).1
   have hoff:∀x∈oj.after,Region.binds md x=true→x.on≠i:=fun x hx hb he=>by
    have h1:=hall x hx hb
    rw [he] at h1
    by_cases hlt:i < listed.size
    ·simp only [Array.getD_eq_getD_getElem?,Array.getElem?_eq_getElem hlt,Option.getD_some] at h1 hun2
     rw [h1] at hun2
     cases hun2
    ·simp [Array.getElem?_eq_none (Nat.le_of_not_lt hlt)] at h1
   have lifted:∀m,listed.getD m false=true→listed.getD m true=true:=fun m hm=>by
    by_cases hlt:m < listed.size
    ·simp only [Array.getD_eq_getD_getElem?,Array.getElem?_eq_getElem hlt,Option.getD_some] at hm ⊢
     exact hm
    ·simp [Array.getElem?_eq_none (Nat.le_of_not_lt hlt)] at hm
   have hdj:D j=false:=by
    cases hd:D j with
    |false=>rfl
    | true =>
      unfold zkz at hwt
      rw [Bool.and_eq_true,List.all_eq_true] at hwt
      have hlt:j < ops.size:=(Array.getElem?_eq_some_iff.1 hoj).1
      have h2:=hwt.2 j (List.mem_range.2 hlt)
      rw [hd] at h2
      simp only [Bool.not_true,Bool.false_or] at h2
      have h0:0 < ops.size:=by omega
      obtain ⟨f,hf⟩ : ∃f,ops.size=f+1:=⟨ops.size - 1,by omega⟩
      rw [hf] at h2
      unfold reaches at h2
      rw [Bool.or_eq_true,hoj] at h2
      rcases h2 with h2|h2
      ·exact absurd (by simpa using h2) e
      ·simp only [List.any_eq_true,Bool.and_eq_true] at h2
       obtain ⟨x,hx,hb,hr2⟩:=h2
       have:=zei hcl f x.on hr2 (lifted _ (hall x (by simpa using hx) hb))
       rw [hun2] at this
       cases this
   have pend:doneD ops D listed=true→False:=fun hdone=>by
    unfold doneD at hdone
    rw [List.any_eq_true] at hdone
    obtain ⟨d,hd,h2⟩:=hdone
    rw [Bool.and_eq_true] at h2
    unfold zkz at hwt
    rw [Bool.and_eq_true,List.all_eq_true] at hwt
    have h3:=hwt.2 d hd
    rw [h2.1] at h3
    simp only [Bool.not_true,Bool.false_or] at h3
    have:=zei hcl _ d h3 (lifted d h2.2)
    rw [hun2] at this
    cases this
   have hcl2:zky md ops (listed.setIfInBounds j true):=fun m om hm hl x hx hb=>by
    by_cases hxj:x.on=j
    ·rw [hxj]
     by_cases hlt:j < listed.size
     ·rw [Array.getD_eq_getD_getElem?,Array.getElem?_setIfInBounds_self_of_lt hlt];rfl
     ·rw [Array.getD_eq_getD_getElem?,Array.getElem?_eq_none (by simpa using hlt)];rfl
    ·rw [getD_set_ne true (Ne.symm hxj)]
     by_cases hmj:m=j
     ·subst hmj
      rw [hoj] at hm
      cases hm
      exact lifted _ (hall x hx hb)
     ·rw [getD_set_ne true (Ne.symm hmj)] at hl
      exact hcl m om hm hl x hx hb
   have hDi:D i=false:=by unfold zkz at hwt;rw [Bool.and_eq_true] at hwt;simpa using hwt.1
   have toC:∀w',InvF ops C D ((listed.setIfInBounds i true).setIfInBounds j true) w'→C w':=fun w' hI=>hI.resolve_right fun hd=>pend (zgz hDi (zgz hdj hd))
   refine wpOp_mono (fun a' w' k=>⟨.inl (toC w' k.2.1),ih _ a' w' (toC w' k.2.1) hcl2 (fun m om hm hmi hmu hmo=>hap m om hm hmi ?_ hmo) (ready_mono hr (Ne.symm e)) k.1 ?_⟩)
    (hy.swap hoj (hap j oj hoj e hun hoff) (fun cs b=>hs i oi cs b hi) (fun cs b=>hs j oj cs b hoj) hQ (h.2 j (ready_mono hj e)))
   ·by_cases hjm:j=m
    ·subst hjm;exact hun
    ·rwa [getD_set_ne true hjm] at hmu
   ·rw [Array.setIfInBounds_comm _ _ e]
    exact k.2.2
theorem znf {i : Nat} {oi : Oper} {v : Value} (hi : ops[i]? = some oi) (hs : ∀ (j : Nat) (o : Oper) cs b, ops[j]? = some o → o.op ≠ .select cs b)
  (hQ:∀c a w,Q (.panic c) (a.put oi.dst v) w→Q (.panic c) a w) (hDi:D i=false) :
  ∀(n:Nat) (listed:Array Bool) (a:Act) (w:World),InvF ops C D listed w →
   (∀j oj,ops[j]? = some oj→j≠i→listed.getD j true=false→(∀e∈oj.after,Region.binds md e=true→e.on≠i)→oi.apart ops oj=true) →
   i∈Region.ready md ops listed→zf6 (fun _=>True) P ops oi v a→anyF P md ops Q C D n (listed.setIfInBounds i true) (a.put oi.dst v) w→anyF P md ops Q C D (n+1) listed a w:=by
 intro n
 induction n with
 | zero =>
   intro listed a w hw hap hr hy h
   refine ⟨fun e=>absurd hr (by rw [e];exact List.not_mem_nil),fun j hj => ?_⟩
   by_cases e:j=i
   ·subst e;exact hy.here hi trivial ⟨hw.imp id zlv,h⟩
   ·exact absurd (ready_mono hj e) (by rw [h.1];exact List.not_mem_nil)
 | succ n ih =>
   intro listed a w hw hap hr hy h
   refine ⟨fun e=>absurd hr (by rw [e];exact List.not_mem_nil),fun j hj => ?_⟩
   by_cases e:j=i
   ·subst e;exact hy.here hi trivial ⟨hw.imp id zlv,h⟩
   obtain ⟨hun,oj,hoj,hall⟩:=mem_ready.1 hj
   have hun2:=(mem_ready.1 hr).1
   have hoff:∀x∈oj.after,Region.binds md x=true→x.on≠i:=fun x hx hb he=>by
    have h1:=hall x hx hb
    rw [he] at h1
    by_cases hlt:i < listed.size
    ·simp only [Array.getD_eq_getD_getElem?,Array.getElem?_eq_getElem hlt,Option.getD_some] at h1 hun2
     rw [h1] at hun2
     cases hun2
    ·simp [Array.getElem?_eq_none (Nat.le_of_not_lt hlt)] at h1
   have toI:∀w',InvF ops C D ((listed.setIfInBounds i true).setIfInBounds j true) w'→InvF ops C D (listed.setIfInBounds j true) w':=fun w' hI=>hI.imp id fun hd=>by
    rw [Array.setIfInBounds_comm _ _ (Ne.symm e)] at hd
    exact zgz hDi hd
   refine wpOp_mono (fun a' w' k=>⟨toI w' k.2.1,ih _ a' w' (toI w' k.2.1) (fun m om hm hmi hmu hmo=>hap m om hm hmi ?_ hmo) (ready_mono hr (Ne.symm e)) k.1 ?_⟩)
    (hy.swap hoj (hap j oj hoj e hun hoff) (fun cs b=>hs i oi cs b hi) (fun cs b=>hs j oj cs b hoj) hQ (h.2 j (ready_mono hj e)))
   ·by_cases hjm:j=m
    ·subst hjm;exact hun
    ·rwa [getD_set_ne true hjm] at hmu
   ·rw [Array.setIfInBounds_comm _ _ e]
    exact k.2.2
theorem zbb {i : Nat} {oi : Oper} {v : Value} {listed : Array Bool} {a a' : Act} {w : World} {n : Nat} (hi : ops[i]? = some oi) (hs : Region.noSelect ops = true) (hf : Region.free md ops listed i = true) (hr : (Region.ready md ops listed).contains i = true)
  (hQ:∀c a w,Q (.panic c) (a.put oi.dst v) w→Q (.panic c) a w) (hw:C w) (hwt:(zkz md ops D i&&zm9 md ops listed)=true) (hn:Region.wanted oi (yielded ops a.tmps)=true) (hy:∀w,C w→(execOp a.eval oi).run P w = .ok (.value v) w) (ha:a.put oi.dst v=a')
  (h:anyF P md ops Q C D n (listed.setIfInBounds i true) a' w):anyF P md ops Q C D (n+1) listed a w :=
 zne hi (Region.noSelect_spec hs) hQ (Bool.and_eq_true_iff.1 hwt).1 n listed a w hw (zlx (Bool.and_eq_true_iff.1 hwt).2) (Region.free_spec hi hf) (by simpa using hr) (.inl ⟨hn,hy⟩) (by rw [ha];exact h)
theorem zak {i : Nat} {oi : Oper} {v : Value} {listed : Array Bool} {a a' : Act} {w : World} {n : Nat} (hi : ops[i]? = some oi) (hs : Region.noSelect ops = true) (hf : Region.free md ops listed i = true) (hr : (Region.ready md ops listed).contains i = true)
  (hQ:∀c a w,Q (.panic c) (a.put oi.dst v) w→Q (.panic c) a w) (hw:InvF ops C D listed w) (hDi:D i=false) (hn:Region.wanted oi (yielded ops a.tmps)=true) (hy:∀w,True→(execOp a.eval oi).run P w = .ok (.value v) w) (ha:a.put oi.dst v=a')
  (h:anyF P md ops Q C D n (listed.setIfInBounds i true) a' w):anyF P md ops Q C D (n+1) listed a w :=
 znf hi (Region.noSelect_spec hs) hQ hDi n listed a w hw (Region.free_spec hi hf) (by simpa using hr) (.inl ⟨hn,hy⟩) (by rw [ha];exact h)
theorem zbq {i : Nat} {oi : Oper} {listed : Array Bool} {a : Act} {w : World} {n : Nat} (hi : ops[i]? = some oi) (hr : Region.ready md ops listed = [i]) (hn : Region.wanted oi (yielded ops a.tmps) = true)
  (h:∀K:Act→World→Prop,(∀a' w',Kept (InvF ops C D (listed.setIfInBounds i true)) w' (anyF P md ops Q C D n (listed.setIfInBounds i true) a' w')→K a' w')→oi.wp P a w K Q):anyF P md ops Q C D (n+1) listed a w :=
 ⟨fun e=>(by rw [hr] at e;cases e),fun j hj=>by
  rw [hr,List.mem_singleton] at hj
  subst hj
  simp only [wpOp,hi,hn,if_true]
  exact .inl (h _ fun a' w' k=>k)⟩
theorem zdq {listed:Array Bool} {a:Act} {w:World} {n:Nat} (hr:Region.ready md ops listed=[]) (h:Q .normal a w):anyF P md ops Q C D n listed a w:=by
 cases n with
 |zero=>exact ⟨hr,h⟩
 |succ n=>exact ⟨fun _=>h,fun j hj=>by rw [hr] at hj;cases hj⟩
theorem zea {id : Nat} {a : Act} {w : World} (C : World → Prop) (D : Nat → Bool) (hm : P.follows .mixedOrders = true)
  (h:anyF P .any ops Q C D ops.size (Array.replicate ops.size false) a w.drew):(Code.region id ops true).wp P Q a w :=
 wp_region_any hm (zoe _ _ _ _ h)
end
end Go.Proofs.YtponpgcpmlcdpaaGreatDoor
