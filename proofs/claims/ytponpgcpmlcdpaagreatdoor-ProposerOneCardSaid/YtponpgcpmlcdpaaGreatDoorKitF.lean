import Derived.WalkKit
namespace Go.Proofs.YtponpgcpmlcdpaaGreatDoor
open Go
def zr1:Option Bool→Value
 |some b => .bool b
 |none=>undef
def zjn (F:List (Nat×Option Bool)):Operand→Option Bool
 |.const (.bool b)=>some b
 |.tmp t=>if F.contains (t,some true) then some true else if F.contains (t,some false) then some false else none
 |_=>none
def zek (n:Nat) (ops:Array Oper):List Oper→List (Nat×Option Bool)→Option (List (Nat×Option Bool))
 | [],F=>some F
 | o :: rest, F =>
   match o.dst with
   |none=>none
   | some d =>
     if d < n then
      match o.guard with
      | some (j, want) =>
        match (ops[j]?).bind (·.dst) with
        |some t=>if F.contains (t,some (!want)) || F.contains (t,none) then zek n ops rest ((d,none)::F.filter fun p=>p.1 != d) else none
        |none=>none
      | none =>
        match o.op with
        |.move x=>match zjn F x with|some b=>zek n ops rest ((d,some b)::F.filter fun p=>p.1 != d)|none=>none
        |.assign x=>match zjn F x with|some b=>zek n ops rest ((d,some b)::F.filter fun p=>p.1 != d)|none=>none
        | .pick c x y =>
          match zjn F c with
          |some b=>match zjn F (if b then x else y) with|some v=>zek n ops rest ((d,some v)::F.filter fun p=>p.1 != d)|none=>none
          |none=>none
        |_=>none
     else none
def zfz (F:List (Nat×Option Bool)) (a:Act):Prop:=∀t b,(t,b)∈F→a.tmps[t]? = some (zr1 b)
theorem ze4 {F:List (Nat×Option Bool)} {a:Act} (h:zfz F a) {x:Operand} {b:Bool} (hk:zjn F x=some b):a.eval x = .bool b:=by
 unfold zjn at hk
 split at hk
 ·cases hk;rfl
 ·rename_i t
  have get:∀c,(t,some c)∈F→a.eval (.tmp t) = .bool c:=fun c hc=>by
   show a.tmps.getD t undef=_
   rw [Array.getD_eq_getD_getElem?,h t _ hc];rfl
  split at hk
  ·rename_i h1;cases hk;exact get _ (by simpa using h1)
  ·split at hk
   ·rename_i h1;cases hk;exact get _ (by simpa using h1)
   ·cases hk
 ·cases hk
theorem zfz.keep {F:List (Nat×Option Bool)} {a:Act} (h:zfz F a) (d:Nat) (v:Value):zfz (F.filter fun p=>p.1 != d) (a.put (some d) v):=fun t b hb=>by
 obtain ⟨h1,h2⟩:=List.mem_filter.1 hb
 have h3:t≠d:=by simpa using h2
 show (a.tmps.setIfInBounds d v)[t]? = _
 rw [Array.getElem?_setIfInBounds_ne (Ne.symm h3)]
 exact h t b h1
theorem zfz.more {F:List (Nat×Option Bool)} {a:Act} (h:zfz F a) (d:Nat) (b:Option Bool) (hd:d < a.tmps.size):zfz ((d,b)::F.filter fun p=>p.1 != d) (a.put (some d) (zr1 b)):=fun t c hc=>by
 rcases List.mem_cons.1 hc with h1|h1
 ·cases h1
  show (a.tmps.setIfInBounds d (zr1 b))[d]? = _
  rw [Array.getElem?_setIfInBounds_self_of_lt hd]
 ·exact h.keep d _ t c h1
theorem zi2 {P : Program} {ops : Array Oper} {Q : Exit → Act → World → Prop} {w : World} : ∀ (rest : List Oper) (F F' : List (Nat × Option Bool)) (a : Act), zek a.tmps.size ops rest F = some F' → zfz F a →
  (∀a':Act,a'.defers=a.defers→a'.tmps.size=a.tmps.size→zfz F' a'→(∀t,(rest.all fun o=>o.dst != some t)=true→a'.tmps[t]? = a.tmps[t]?)→Q .normal a' w)→wpList P ops Q rest a w:=by
 intro rest
 induction rest with
 | nil =>
   intro F F' a h hF k
   cases h
   exact k a rfl rfl hF fun _ _=>rfl
 | cons o rest ih =>
   intro F F' a h hF k
   unfold zek at h
   cases hdst:o.dst with
   |none=>rw [hdst] at h;cases h
   | some d =>
     rw [hdst] at h
     dsimp only at h
     by_cases hd:d < a.tmps.size
     case neg=>rw [if_neg hd] at h;cases h
     rw [if_pos hd] at h
     have size:∀v,(a.put (some d) v).tmps.size=a.tmps.size:=fun v=>by show (a.tmps.setIfInBounds d v).size=_;simp
     have go:∀(G:List (Nat×Option Bool)) (v:Value),zek a.tmps.size ops rest G=some F'→zfz G (a.put (some d) v)→wpList P ops Q rest (a.put (some d) v) w:=fun G v hG hH=>by
      refine ih G F' _ (by rw [size];exact hG) hH fun a' h1 h2 h3 h4=>k a' h1 (by rw [h2,size]) h3 fun t ht => ?_
      rw [List.all_cons,Bool.and_eq_true] at ht
      rw [h4 t ht.2]
      have h5:d≠t:=by have:=ht.1;rw [hdst] at this;simpa using this
      show (a.tmps.setIfInBounds d v)[t]? = _
      rw [Array.getElem?_setIfInBounds_ne h5]
     refine wpList_step fun K hK => ?_
     cases hg:o.guard with
     | some g =>
       obtain ⟨j,want⟩:=g
       rw [hg] at h
       dsimp only at h
       cases ht:(ops[j]?).bind (·.dst) with
       |none=>rw [ht] at h;cases h
       | some t =>
         rw [ht] at h
         dsimp only at h
         by_cases hc:(F.contains (t,some (!want)) || F.contains (t,none))=true
         case neg=>rw [if_neg hc] at h;cases h
         rw [if_pos hc] at h
         have hy:yielded ops a.tmps j=some (!want)∨yielded ops a.tmps j=none:=by
          unfold yielded
          rw [ht]
          show (match a.tmps[t]? with|some (.bool b)=>some b|_=>none)=_∨(match a.tmps[t]? with|some (.bool b)=>some b|_=>none)=_
          rcases Bool.or_eq_true_iff.1 hc with hc|hc
          ·rw [hF t (some (!want)) (by simpa using hc)];exact .inl rfl
          ·rw [hF t none (by simpa using hc)];exact .inr rfl
         have hn:Region.wanted o (yielded ops a.tmps)=false:=by
          unfold Region.wanted
          rw [hg]
          rcases hy with hy|hy<;>cases want<;>simp [hy]
         rw [hn,hdst]
         exact hK _ _ (go _ _ h (hF.more d none hd))
     | none =>
       rw [hg] at h
       dsimp only at h
       have hn:Region.wanted o (yielded ops a.tmps)=true:=by unfold Region.wanted;rw [hg]
       rw [hn]
       simp only [if_true]
       have val:∀b,execOp a.eval o=pure (.value (.bool b))→(zek a.tmps.size ops rest ((d,some b)::F.filter fun p=>p.1 != d)=some F')→o.wp P a w K Q:=fun b he hr=>by
        unfold Oper.wp
        rw [he]
        show K (a.put o.dst (.bool b)) w
        rw [hdst]
        exact hK _ _ (go _ _ hr (hF.more d (some b) hd))
       split at h
       ·rename_i x hop
        split at h
        ·rename_i b hb
         exact val b (by unfold execOp;rw [hop];dsimp only;rw [ze4 hF hb]) h
        ·cases h
       ·rename_i x hop
        split at h
        ·rename_i b hb
         exact val b (by unfold execOp;rw [hop];dsimp only;rw [ze4 hF hb]) h
        ·cases h
       ·rename_i c x y hop
        split at h
        ·rename_i b hb
         split at h
         ·rename_i v hv
          refine val v ?_ h
          unfold execOp
          rw [hop]
          dsimp only
          rw [ze4 hF hb]
          have:=ze4 hF hv
          cases b<;>simp_all [asBool]
         ·cases h
        ·cases h
       ·cases h
theorem zf1 {P : Program} {ops : Array Oper} {Q : Exit → Act → World → Prop} {w : World} {rest : List Oper} {o : Oper} {a : Act} (d : Nat) (v : Bool) {j : Nat} {want b : Bool} {t : Nat}
  (hg:o.guard=some (j,want)) (_ht:(ops[j]?).bind (·.dst)=some t) (hb:a.tmps[t]? = some (.bool b))
  (hd:(((zek a.tmps.size ops (o::rest) [(t,some (!want))]).getD []).contains (d,some v))=true)
  (hyes:b=want→wpList P ops Q (o::rest) a w)
  (hno:b = !want→∀a':Act,a'.defers=a.defers→a'.tmps.size=a.tmps.size→a'.tmps.getD d undef = .bool v→(∀t,((o::rest).all fun o=>o.dst != some t)=true→a'.tmps[t]? = a.tmps[t]?)→Q .normal a' w):wpList P ops Q (o::rest) a w:=by
 by_cases h:b=want
 ·exact hyes h
 have hb':b = !want:=by cases b<;>cases want<;>simp_all
 cases hr:zek a.tmps.size ops (o::rest) [(t,some (!want))] with
 |none=>rw [hr] at hd;simp at hd
 | some F' =>
   rw [hr] at hd
   refine zi2 _ _ F' a hr (fun t' c hc => ?_) fun a' h1 h2 h3 h4=>hno hb' a' h1 h2 ?_ h4
   ·rw [List.mem_singleton] at hc
    cases hc
    rw [hb,hb'];rfl
   ·rw [Array.getD_eq_getD_getElem?,h3 d (some v) (by simpa using hd)];rfl
theorem zax {P:Program} {ops:Array Oper} {Q:Exit→Act→World→Prop} {w:World} {rest:List Oper} {o:Oper} {a:Act} (h:wpList P ops Q (o::rest) a w):wpList P ops Q (o::rest) a w:=h
theorem zf0 {P:Program} {ops:Array Oper} {Q:Exit→Act→World→Prop} {w:World} {rest:List Oper} {o:Oper} {a:Act} (_:Region.wanted o (yielded ops a.tmps)=true) (h:wpList P ops Q (o::rest) a w):wpList P ops Q (o::rest) a w:=h
end Go.Proofs.YtponpgcpmlcdpaaGreatDoor
