import Derived.Test.YtponpgcpmlcdpaaGreatDoorKX
namespace Go.Proofs.YtponpgcpmlcdpaaGreatDoor.Kx
open Go.RowKit Go.Shelf
set_option linter.unusedVariables false
section
variable {P:Program} {ops:Array Oper} {md:Region.Mode} {Q:Exit→Act→World→Prop} {C C':World→Prop} {D:Nat→Bool} {n:Nat} {v:Value} {listed:Array Bool} {a a':Act}
theorem lt (i : Nat) {oi : Oper} (hi : ops[i]? = some oi) (h : anyW P md ops Q C D n (listed.setIfInBounds i true) (At a' C'))
  (hC:zdc C':=by first|exact Kx.za7|exact zb7|assumption) (hr:Region.ready md ops listed=[i]:=by kernel_rfl) (hd:D i=true:=by rfl)
  (hn:Region.wanted oi (yielded ops a.tmps)=true:=by kernel_rfl) (hy:∀w,C' w→(execOp a.eval oi).run P w = .ok (.value v) w:=by (intro w hC;go_simp;try with_reducible rfl))
  (ha:a.put oi.dst v=a':=by (go_simp;try with_reducible rfl)):anyW P md ops Q C D (n+1) listed (At a C') :=
 zda (At a' C') (At.bears hC) hi hr hn (.inl hd) (fun w hw=>by unfold Oper.wp;rw [hy w hw];exact ⟨ha,hw⟩) h
theorem lsS (i : Nat) {oi : Oper} (hi : ops[i]? = some oi) (hsub : ∀ w, C' w → C w) (h : anyW P md ops Q C D n (listed.setIfInBounds i true) (At a' C'))
  (hC:zdc C':=by first|exact Kx.za7|exact zb7|assumption) (hr:Region.ready md ops listed=[i]:=by kernel_rfl)
  (hn:Region.wanted oi (yielded ops a.tmps)=true:=by kernel_rfl) (hy:∀w,C' w→(execOp a.eval oi).run P w = .ok (.value v) w:=by (intro w hC;go_simp;try with_reducible rfl))
  (ha:a.put oi.dst v=a':=by (go_simp;try with_reducible rfl)):anyW P md ops Q C D (n+1) listed (At a C') :=
 zda (At a' C') (At.bears hC) hi hr hn (.inr fun _ w k=>hsub w k.2) (fun w hw=>by unfold Oper.wp;rw [hy w hw];exact ⟨ha,hw⟩) h
theorem tkS (i : Nat) {oi : Oper} (hi : ops[i]? = some oi) (hsub : ∀ w, C' w → C w) (h : anyW P md ops Q C D n (listed.setIfInBounds i true) (At a' C'))
  (hC:zdc C':=by first|exact Kx.za7|exact zb7|assumption) (hs:Region.noSelect ops=true:=by kernel_rfl) (hf:Region.free md ops listed i=true:=by kernel_rfl) (hr:(Region.ready md ops listed).contains i=true:=by kernel_rfl)
  (hwt:waits md ops D i=true:=by kernel_rfl) (hn:Region.wanted oi (yielded ops a.tmps)=true:=by kernel_rfl) (hy:∀w,C w→(execOp a.eval oi).run P w = .ok (.value v) w:=by (intro w hC;go_simp;try with_reducible rfl))
  (ha:a.put oi.dst v=a':=by (go_simp;try with_reducible rfl)) (hQ:∀c a w,Q (.panic c) (a.put oi.dst v) w→Q (.panic c) a w:=by exact fun _ _ _ h=>h):anyW P md ops Q C D (n+1) listed (At a C') :=
 zjx hi (Region.noSelect_spec hs) hQ hwt n listed _ (At.bears hC) (fun b w k=>⟨hsub w k.2,by rw [k.1];exact .inl ⟨hn,fun w hw => .inl ⟨w,hy w hw,Below.refl _ _⟩⟩⟩) (Region.free_spec hi hf) (by simpa using hr) (zix (fun b w ⟨b2,e,k⟩=>⟨by rw [e,k.1,ha],k.2⟩) h)
theorem zfn {ι : Type} (i : Nat) {oi : Oper} {f : FuncId} {args : Array Value} {a2 : ι → Act} (v : ι → Value) (C2 : ι → World → Prop) (y0 : ι) (hi : ops[i]? = some oi) (hb : ∀ y, zdc (C2 y)) (hsub : ∀ y w, C2 y w → C w) (hE : ∀ w, C' w → (execOp a.eval oi).run P w = .ok (.enter f args) w)
  (hc:∀w,C' w→Calls P f args w fun e w'=>∃y,e = .returned (v y)∧C2 y w') (h:∀y,anyW P md ops Q C D n (listed.setIfInBounds i true) (At (a2 y) (C2 y)))
  (ha:∀y,a.put oi.dst (v y)=a2 y:=by (intro y;go_simp;try with_reducible rfl))
  (hr:Region.ready md ops listed=[i]:=by kernel_rfl) (hn:Region.wanted oi (yielded ops a.tmps)=true:=by kernel_rfl):anyW P md ops Q C D (n+1) listed (At a C') :=
 zda (fun a' w'=>∃y,At (a2 y) (C2 y) a' w') (fun _ _ _ ⟨y,q,q2⟩ hw=>⟨y,q,hb y _ _ q2 hw⟩) hi hr hn (.inr fun _ _ ⟨y,_,q⟩=>hsub y _ q)
  (fun w hw => by
    unfold Oper.wp
    rw [hE w hw]
    simp only [Oper.upon]
    refine (hc w hw).mono ?_
    rintro en w'' ⟨y,rfl,q⟩
    exact ⟨y,ha y,q⟩)
  (zet y0 h)
theorem zc5 {id : Nat} {a : Act} {w : World} (C C' : World → Prop) (D : Nat → Bool) (hm : P.follows .mixedOrders = true) (hw : C' w.drew)
  (h:anyW P .any ops Q C D ops.size (Array.replicate ops.size false) (At a C')):(Code.region id ops true).wp P Q a w :=
 wp_region_any hm (zks _ _ _ h _ _ ⟨rfl,hw⟩)
end
section
variable {P:Program} {ops:Array Oper} {md:Region.Mode} {Q:Exit→Act→World→Prop} {C:World→Prop} {D:Nat→Bool} {n:Nat} {v:Value} {listed:Array Bool} {a a':Act}
variable {w0:World} {l l':List (Nat×List Value)} {r:List Rw} {F:Fz} {ty t2:TypeId} {x y:Operand} {pos:String} {af:Array Edge} {d:Option Tmp} {b b0 k o:Nat} {cs cs0 old new:List Value} {g:Option (Nat×Bool)}
theorem xlS (i : Nat) (hi : ops[i]? = some (Oper.mk d (.load ty x) t2 pos af g)) [hA : OneC P ty] (hx : a.eval x = .pointer (some ⟨b, o, none⟩)) [hm : InL b cs l] (hv : cs[o]? = some v) (hk : cs0.length = k)
  (h:anyW P md ops Q (Cu w0 b0 k l r F) D n (listed.setIfInBounds i true) (At a' (fun w'=>Bxs w0 w' ((b0,cs0)::l) r F)))
  (hs:Region.noSelect ops=true:=by kernel_rfl) (hf:Region.free md ops listed i=true:=by kernel_rfl) (hr:(Region.ready md ops listed).contains i=true:=by kernel_rfl)
  (hwt:waits md ops D i=true:=by kernel_rfl) (hn:Region.wanted (Oper.mk d (.load ty x) t2 pos af g) (yielded ops a.tmps)=true:=by kernel_rfl)
  (ha:a.put d v=a':=by (go_simp;try with_reducible rfl)) (hQ:∀c a w,Q (.panic c) (a.put d v) w→Q (.panic c) a w:=by exact fun _ _ _ h=>h):anyW P md ops Q (Cu w0 b0 k l r F) D (n+1) listed (At a (fun w'=>Bxs w0 w' ((b0,cs0)::l) r F)) :=
 tkS i hi (fun w hw=>⟨cs0,hk,hw⟩) h za7 hs hf hr hwt hn (fun w ⟨c1,_,hB⟩=>zbg hB b o hx cs InL.tail (hA.out w) hv) ha hQ
theorem xlaS (i : Nat) {m : Nat} (hi : ops[i]? = some (Oper.mk d (.load ty x) t2 pos af g)) [hA : AggC P ty m] (hx : a.eval x = .pointer (some ⟨b, o, none⟩)) [hm : InL b cs l] (hk : cs0.length = k)
  (h:anyW P md ops Q (Cu w0 b0 k l r F) D n (listed.setIfInBounds i true) (At a' (fun w'=>Bxs w0 w' ((b0,cs0)::l) r F)))
  (hv:(cs.drop o).take m=new:=by first|exact Kx.whole (by rfl)|(simp<;>rfl)) (hl:new.length=m:=by rfl)
  (hs:Region.noSelect ops=true:=by kernel_rfl) (hf:Region.free md ops listed i=true:=by kernel_rfl) (hr:(Region.ready md ops listed).contains i=true:=by kernel_rfl)
  (hwt:waits md ops D i=true:=by kernel_rfl) (hn:Region.wanted (Oper.mk d (.load ty x) t2 pos af g) (yielded ops a.tmps)=true:=by kernel_rfl)
  (ha:a.put d (.agg new.toArray)=a':=by (go_simp;try with_reducible rfl)) (hQ:∀c a w,Q (.panic c) (a.put d (.agg new.toArray)) w→Q (.panic c) a w:=by exact fun _ _ _ h=>h):anyW P md ops Q (Cu w0 b0 k l r F) D (n+1) listed (At a (fun w'=>Bxs w0 w' ((b0,cs0)::l) r F)) :=
 tkS i hi (fun w hw=>⟨cs0,hk,hw⟩) h za7 hs hf hr hwt hn (fun w ⟨c1,_,hB⟩=>zch hB b o hx cs InL.tail m (hA.agg w) (hA.size w) new hv hl rfl) ha hQ
theorem stcS (i : Nat) (hi : ops[i]? = some (Oper.mk none (.store ty x (.const v)) t2 pos af none)) (hx : a.eval x = .pointer (some ⟨b, o, none⟩)) (h1 : v.oneCell' = true) [hs : SetL b new l old l'] (hsub : ∀ w, Bxs w0 w l' r F → C w)
  (h:anyW P md ops Q C D n (listed.setIfInBounds i true) (At a (fun w'=>Bxs w0 w' l' r F)))
  (hnew:old.set o v=new:=by simp<;>rfl) (hl:o < old.length:=by simp) (hS:∀w,(sizeOf ty).run P w = .ok 1 w:=by intro w;simp<;>rfl)
  (hr:Region.ready md ops listed=[i]:=by kernel_rfl) (hn:Region.wanted (Oper.mk none (.store ty x (.const v)) t2 pos af none) (yielded ops a.tmps)=true:=by kernel_rfl):anyW P md ops Q C D (n+1) listed (At a (fun w'=>Bxs w0 w' l r F)) :=
 zda (At a (fun w'=>Bxs w0 w' l' r F)) (At.bears za7) hi hr hn (.inr fun _ w k=>hsub w k.2)
  (fun w hw => zc0 hw ty x _ rfl b hx v rfl [v] (cells_one h1) old (by
    have e:splice old o [v]=new:=by rw [←hnew,List.set_eq_take_append_cons_drop,if_pos hl];rfl
    rw [e];exact hs.set) (by show o+1≤_;omega) (hS w) (by simp [h1]) fun _ hw'=>⟨rfl,hw'⟩) h
theorem st1S (i : Nat) {q : Nat} (hi : ops[i]? = some (Oper.mk none (.store ty x (.tmp q)) t2 pos af none)) (hx : a.eval x = .pointer (some ⟨b, o, none⟩)) (hy : a.tmps[q]? = some v) (h1 : v.oneCell' = true) [hs : SetL b new l old l'] (hsub : ∀ w, Bxs w0 w l' r F → C w)
  (h:anyW P md ops Q C D n (listed.setIfInBounds i true) (At a (fun w'=>Bxs w0 w' l' r F)))
  (hnew:old.set o v=new:=by simp<;>rfl) (hl:o < old.length:=by simp) (hS:∀w,(sizeOf ty).run P w = .ok 1 w:=by intro w;simp<;>rfl)
  (hr:Region.ready md ops listed=[i]:=by kernel_rfl) (hn:Region.wanted (Oper.mk none (.store ty x (.tmp q)) t2 pos af none) (yielded ops a.tmps)=true:=by kernel_rfl):anyW P md ops Q C D (n+1) listed (At a (fun w'=>Bxs w0 w' l r F)) :=
 zda (At a (fun w'=>Bxs w0 w' l' r F)) (At.bears za7) hi hr hn (.inr fun _ w k=>hsub w k.2)
  (fun w hw => zc0 hw ty x _ rfl b hx v (zhs hy) [v] (cells_one h1) old (by
    have e:splice old o [v]=new:=by rw [←hnew,List.set_eq_take_append_cons_drop,if_pos hl];rfl
    rw [e];exact hs.set) (by show o+1≤_;omega) (hS w) (by simp [h1]) fun _ hw'=>⟨rfl,hw'⟩) h
theorem staS (i : Nat) (hi : ops[i]? = some (Oper.mk none (.store ty x y) t2 pos af none)) (hx : a.eval x = .pointer (some ⟨b, o, none⟩)) (hy : a.eval y = .agg cs.toArray) [hs : SetL b new l old l'] (hsub : ∀ w, Bxs w0 w l' r F → C w)
  (h:anyW P md ops Q C D n (listed.setIfInBounds i true) (At a (fun w'=>Bxs w0 w' l' r F)))
  (hnew:splice old o cs=new:=by first|exact zfd (by rfl)|(simp<;>rfl)|(simp [splice]<;>rfl)) (hl:o+cs.length≤old.length:=by simp) (hS:∀w,(sizeOf ty).run P w = .ok cs.length w:=by intro w;simp<;>rfl) (h1:cs.all (·.oneCell')=true:=by rfl)
  (hr:Region.ready md ops listed=[i]:=by kernel_rfl) (hn:Region.wanted (Oper.mk none (.store ty x y) t2 pos af none) (yielded ops a.tmps)=true:=by kernel_rfl):anyW P md ops Q C D (n+1) listed (At a (fun w'=>Bxs w0 w' l r F)) :=
 zda (At a (fun w'=>Bxs w0 w' l' r F)) (At.bears za7) hi hr hn (.inr fun _ w k=>hsub w k.2)
  (fun w hw=>zc0 hw ty x _ rfl b hx _ hy cs rfl old (by rw [hnew];exact hs.set) hl (hS w) h1 fun _ hw'=>⟨rfl,hw'⟩) h
theorem zd3 {id : Nat} {w : World} (k : Nat) (hB : Hid (Bxs w0 w ((b0, cs0) :: l) r F)) (hk : cs0.length = k) (hm : P.follows .mixedOrders = true)
  (h:anyW P .any ops Q (Cu w0 b0 k l r F) (fun _=>false) ops.size (Array.replicate ops.size false) (At a (fun w'=>Bxs w0 w' ((b0,cs0)::l) r F))):(Code.region id ops true).wp P Q a w :=
 zc5 (Cu w0 b0 k l r F) (fun w'=>Bxs w0 w' ((b0,cs0)::l) r F) (fun _=>false) hm hB.out.drew h
end
end Go.Proofs.YtponpgcpmlcdpaaGreatDoor.Kx
