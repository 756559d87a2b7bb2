import Derived.Test.YtponpgcpmlcdpaaGreatDoorOxx
import Derived.Test.YtponpgcpmlcdpaaGreatDoorAaw
set_option maxRecDepth 100000
namespace Go.Proofs.YtponpgcpmlcdpaaGreatDoor
open Go.RowKit Go.Shelf Km Kx Kc
set_option linter.unusedVariables false
instance instProp:Kx.AggC Tryz.prog 55 30:=⟨Tryz.isAgg55,Tryz.sizeOf55⟩
instance instPropZ:Kx.ZAgg Tryz.prog 55 Pp.zero.cells:=⟨Tryz.zeroValue55⟩
@[simp] theorem Pp.len' (p:Pp):p.cells.length=30:=rfl
theorem zhb {P : Program} {f : FuncId} {fn : Func} {c : Code} (hf : P.funcs[f]? = some fn) (hname : (fn.name == "runtime.NumGoroutine") = false) (hb : fn.body = some c) (args : Array Value) (w : World) :
  (callFunc f args).run P w = .ok (.enter f args) w:=by
 have h1 : fn.name ≠ "runtime.NumGoroutine" := by simpa using hname
 simp [callFunc,hf,h1,hb]
section
variable {w0 w:World} {l:List (Nat×List Value)} {r:List Rw} {F:List (Option Addr×List Value)}
set_option maxHeartbeats 1000000 in
theorem zck (h : Bxs w0 w l r F) (p : Pp) (c : Cf) (ph kd : Int) :
  Calls Tryz.prog 44 #[.agg p.cells.toArray,.agg (cf c).toArray,.int .i64 ph,.int .i64 kd] w fun e w'=>∃b4 b5 b6 b7,e = .returned (.func (.func 73) #[] #[.pointer (some ⟨b4,0,none⟩),.pointer (some ⟨b6,0,none⟩),.pointer (some ⟨b7,0,none⟩),.pointer (some ⟨b5,0,none⟩)]) ∧
   Bxs w0 w' ((b7,[.int .i64 kd])::(b6,[.int .i64 ph])::(b5,cf c)::(b4,p.cells)::l) r F:=by
 have HB:=Lib.hid h
 clear h
 go_enter Tryz.func44,Tryz.ntmps44
 go_wp2_with (first|((with_reducible refine zah HB ?_);clear HB;intro w_ HB)|((with_reducible refine zae (d:=some 4) ?_);(first|refine boxa HB rfl ?_|refine boxt HB rfl rfl ?_|refine box1 HB rfl rfl ?_);clear HB;intro b4 w_ HB;refine Kx.fr ?_)|((with_reducible refine zaa (d:=some 4) ?_);(first|refine ala HB ?_|refine al1 HB ?_);clear HB;intro b4 w_ HB;refine Kx.fr ?_)|((with_reducible refine zae (d:=some 5) ?_);(first|refine boxa HB rfl ?_|refine boxt HB rfl rfl ?_|refine box1 HB rfl rfl ?_);clear HB;intro b5 w_ HB;refine Kx.fr ?_)|((with_reducible refine zaa (d:=some 5) ?_);(first|refine ala HB ?_|refine al1 HB ?_);clear HB;intro b5 w_ HB;refine Kx.fr ?_)|((with_reducible refine zae (d:=some 6) ?_);(first|refine boxa HB rfl ?_|refine boxt HB rfl rfl ?_|refine box1 HB rfl rfl ?_);clear HB;intro b6 w_ HB;refine Kx.fr ?_)|((with_reducible refine zaa (d:=some 6) ?_);(first|refine ala HB ?_|refine al1 HB ?_);clear HB;intro b6 w_ HB;refine Kx.fr ?_)|((with_reducible refine zae (d:=some 7) ?_);(first|refine boxa HB rfl ?_|refine boxt HB rfl rfl ?_|refine box1 HB rfl rfl ?_);clear HB;intro b7 w_ HB;refine Kx.fr ?_)|((with_reducible refine zaa (d:=some 7) ?_);(first|refine ala HB ?_|refine al1 HB ?_);clear HB;intro b7 w_ HB;refine Kx.fr ?_)|((with_reducible refine zae ?_);(first|refine boxa HB rfl ?_|refine boxt HB rfl rfl ?_|refine box1 HB rfl rfl ?_);clear HB;intro b_ w_ HB;refine Kx.fr ?_)|((with_reducible refine zaa ?_);(first|refine ala HB ?_|refine al1 HB ?_);clear HB;intro b_ w_ HB;refine Kx.fr ?_)|((with_reducible refine zab ?_);first|refine Kx.l1 HB rfl rfl ?_|refine Kx.la HB rfl ?_)|((with_reducible refine zac ?_);first|refine l1g HB rfl rfl rfl ?_|refine Kx.lag HB rfl rfl ?_)|((with_reducible refine zad ?_);(first|refine stwa HB rfl rfl ?_|refine sta HB rfl rfl ?_|refine Kx.stc HB rfl rfl ?_|refine Kx.stt HB rfl rfl rfl ?_|refine Kx.st1 HB rfl rfl rfl ?_);clear HB;intro w_ HB))
 go_ret
 exact ⟨_,_,_,_,rfl,HB.out⟩
end
def zi1 (f:Nat) (p:Pp) (m:Mg) (ph kd:Int):Prop:=p.ph=ph∧Ans f p m kd
instance (f:Nat) (p:Pp) (m:Mg) (ph kd:Int):Decidable (zi1 f p m ph kd):=by unfold zi1;infer_instance
section
variable {w0 w:World} {l:List (Nat×List Value)} {r:List Rw} {F:List (Option Addr×List Value)}
set_option maxHeartbeats 2000000 in
theorem zfk {b4 b5 b6 b7 : Nat} (p : Pp) (c : Cf) (ph kd : Int) (h : Bxs w0 w ((b7, [.int .i64 kd]) :: (b6, [.int .i64 ph]) :: (b5, cf c) :: (b4, p.cells) :: l) r F) (m : Mg) :
  Calls Tryz.prog 73 #[.agg m.cells.toArray,.pointer (some ⟨b4,0,none⟩),.pointer (some ⟨b6,0,none⟩),.pointer (some ⟨b7,0,none⟩),.pointer (some ⟨b5,0,none⟩)] w fun e w'=>e = .returned (.bool (decide (zi1 (Fc c) p m ph kd))) ∧
   Bxs w0 w' ((b7,[.int .i64 kd])::(b6,[.int .i64 ph])::(b5,cf c)::(b4,p.cells)::l) r F:=by
 have HB:=Lib.hid h
 clear h
 obtain ⟨f,hf⟩ : ∃f,Fc c=f:=⟨_,rfl⟩
 have HF:Hid (∀W,Calls Tryz.prog 69 #[.agg (cf c).toArray] W fun e w'=>e = .returned (.int .i64 ((2 * f+1:Nat):Int))∧Below W.heap.size W w'):=Lib.hid (fun W=>by rw [←hf];exact zsa c W)
 rw [hf]
 clear hf
 by_cases q1:p.ph=ph
 case neg =>
  have c1:(p.ph == ph)=false:=beq_false_of_ne q1
  have HE:=Lib.hid (decide_eq_false (p:=zi1 f p m ph kd) (fun h=>q1 h.1))
  clear q1
  go_enter Tryz.func73,Tryz.ntmps73
  go_wp2_with (first|((with_reducible refine zah HB ?_);clear HB;intro w_ HB)|((with_reducible refine zae (d:=some 5) ?_);(first|refine boxa HB rfl ?_|refine boxt HB rfl rfl ?_|refine box1 HB rfl rfl ?_);clear HB;intro b5 w_ HB;refine Kx.fr ?_)|((with_reducible refine zaa (d:=some 5) ?_);(first|refine ala HB ?_|refine al1 HB ?_);clear HB;intro b5 w_ HB;refine Kx.fr ?_)|((with_reducible refine zae ?_);(first|refine boxa HB rfl ?_|refine boxt HB rfl rfl ?_|refine box1 HB rfl rfl ?_);clear HB;intro b_ w_ HB;refine Kx.fr ?_)|((with_reducible refine zaa ?_);(first|refine ala HB ?_|refine al1 HB ?_);clear HB;intro b_ w_ HB;refine Kx.fr ?_)|((with_reducible refine zab ?_);first|refine Kx.l1 HB rfl rfl ?_|refine Kx.la HB rfl ?_)|((with_reducible refine zac ?_);first|refine l1g HB rfl rfl rfl ?_|refine Kx.lag HB rfl rfl ?_)|((with_reducible refine zad ?_);(first|refine stwa HB rfl rfl ?_|refine sta HB rfl rfl ?_|refine Kx.stc HB rfl rfl ?_|refine Kx.stt HB rfl rfl rfl ?_|refine Kx.st1 HB rfl rfl rfl ?_);clear HB;intro w_ HB))
  refine zau HB (fun i=>false) (by kernel_rfl) ?_
  refine Kx.tk 0 rfl ?_
  first|refine xl1 1 rfl rfl rfl ?_|refine xla 1 rfl rfl ?_
  first|refine xl1 2 rfl rfl rfl ?_|refine xla 2 rfl rfl ?_
  refine Kx.tk 3 rfl ?_
  refine Kx.tk 4 rfl ?_
  refine Kx.sk 5 rfl ?_
  refine Kx.sk 6 rfl ?_
  refine Kx.sk 7 rfl ?_
  refine Kx.sk 8 rfl ?_
  refine Kx.tk 9 rfl ?_
  refine Kx.tk 10 rfl ?_
  refine Kx.sk 11 rfl ?_
  refine Kx.sk 12 rfl ?_
  refine Kx.sk 13 rfl ?_
  refine Kx.sk 14 rfl ?_
  refine Kx.sk 15 rfl ?_
  refine Kx.tk 16 rfl ?_
  refine Kx.tk 17 rfl ?_
  refine Kx.sk 18 rfl ?_
  refine Kx.sk 19 rfl ?_
  refine Kx.sk 20 rfl ?_
  refine Kx.sk 21 rfl ?_
  refine Kx.sk 22 rfl ?_
  refine Kx.tk 23 rfl ?_
  refine Kx.tk 24 rfl ?_
  refine Kx.sk 25 rfl ?_
  refine Kx.sk 26 rfl ?_
  refine Kx.sk 27 rfl ?_
  refine Kx.tk 28 rfl ?_
  refine Kx.tk 29 rfl ?_
  refine Kx.sk 30 rfl ?_
  refine Kx.sk 31 rfl ?_
  refine Kx.sk 32 rfl ?_
  refine Kx.sk 33 rfl ?_
  refine Kx.sk 34 rfl ?_
  refine Kx.tk 35 rfl ?_
  refine Kx.tk 36 rfl ?_
  refine zan (by kernel_rfl) ?_
  clear HB
  intro w_ HB_
  have HB:=Lib.hid HB_
  clear HB_
  go_wp2_with fail
  go_ret
  exact ⟨by rw [HE.out];rfl,HB.out.tail⟩
 have c1:(p.ph == ph)=true:=beq_iff_eq.2 q1
 by_cases q2:m.k=kd
 case neg =>
  have c2:(m.k == kd)=false:=beq_false_of_ne q2
  have HE:=Lib.hid (decide_eq_false (p:=zi1 f p m ph kd) (fun h=>q2 h.2.1))
  clear q1 q2
  go_enter Tryz.func73,Tryz.ntmps73
  go_wp2_with (first|((with_reducible refine zah HB ?_);clear HB;intro w_ HB)|((with_reducible refine zae (d:=some 5) ?_);(first|refine boxa HB rfl ?_|refine boxt HB rfl rfl ?_|refine box1 HB rfl rfl ?_);clear HB;intro b5 w_ HB;refine Kx.fr ?_)|((with_reducible refine zaa (d:=some 5) ?_);(first|refine ala HB ?_|refine al1 HB ?_);clear HB;intro b5 w_ HB;refine Kx.fr ?_)|((with_reducible refine zae ?_);(first|refine boxa HB rfl ?_|refine boxt HB rfl rfl ?_|refine box1 HB rfl rfl ?_);clear HB;intro b_ w_ HB;refine Kx.fr ?_)|((with_reducible refine zaa ?_);(first|refine ala HB ?_|refine al1 HB ?_);clear HB;intro b_ w_ HB;refine Kx.fr ?_)|((with_reducible refine zab ?_);first|refine Kx.l1 HB rfl rfl ?_|refine Kx.la HB rfl ?_)|((with_reducible refine zac ?_);first|refine l1g HB rfl rfl rfl ?_|refine Kx.lag HB rfl rfl ?_)|((with_reducible refine zad ?_);(first|refine stwa HB rfl rfl ?_|refine sta HB rfl rfl ?_|refine Kx.stc HB rfl rfl ?_|refine Kx.stt HB rfl rfl rfl ?_|refine Kx.st1 HB rfl rfl rfl ?_);clear HB;intro w_ HB))
  refine zau HB (fun i=>false) (by kernel_rfl) ?_
  refine Kx.tk 0 rfl ?_
  first|refine xl1 1 rfl rfl rfl ?_|refine xla 1 rfl rfl ?_
  first|refine xl1 2 rfl rfl rfl ?_|refine xla 2 rfl rfl ?_
  refine Kx.tk 3 rfl ?_
  refine Kx.tk 4 rfl ?_
  refine Kx.tk 5 rfl ?_
  first|refine xl1 6 rfl rfl rfl ?_|refine xla 6 rfl rfl ?_
  first|refine xl1 7 rfl rfl rfl ?_|refine xla 7 rfl rfl ?_
  refine Kx.tk 8 rfl ?_
  refine Kx.tk 9 rfl ?_
  refine Kx.tk 10 rfl ?_
  refine Kx.sk 11 rfl ?_
  refine Kx.sk 12 rfl ?_
  refine Kx.sk 13 rfl ?_
  refine Kx.sk 14 rfl ?_
  refine Kx.sk 15 rfl ?_
  refine Kx.tk 16 rfl ?_
  refine Kx.tk 17 rfl ?_
  refine Kx.sk 18 rfl ?_
  refine Kx.sk 19 rfl ?_
  refine Kx.sk 20 rfl ?_
  refine Kx.sk 21 rfl ?_
  refine Kx.sk 22 rfl ?_
  refine Kx.tk 23 rfl ?_
  refine Kx.tk 24 rfl ?_
  refine Kx.sk 25 rfl ?_
  refine Kx.sk 26 rfl ?_
  refine Kx.sk 27 rfl ?_
  refine Kx.tk 28 rfl ?_
  refine Kx.tk 29 rfl ?_
  refine Kx.sk 30 rfl ?_
  refine Kx.sk 31 rfl ?_
  refine Kx.sk 32 rfl ?_
  refine Kx.sk 33 rfl ?_
  refine Kx.sk 34 rfl ?_
  refine Kx.tk 35 rfl ?_
  refine Kx.tk 36 rfl ?_
  refine zan (by kernel_rfl) ?_
  clear HB
  intro w_ HB_
  have HB:=Lib.hid HB_
  clear HB_
  go_wp2_with fail
  go_ret
  exact ⟨by rw [HE.out];rfl,HB.out.tail⟩
 have c2:(m.k == kd)=true:=beq_iff_eq.2 q2
 by_cases q3:m.e=p.e
 case neg =>
  have c3:(m.e == p.e)=false:=beq_false_of_ne q3
  have HE:=Lib.hid (decide_eq_false (p:=zi1 f p m ph kd) (fun h=>q3 h.2.2.1))
  clear q1 q2 q3
  go_enter Tryz.func73,Tryz.ntmps73
  go_wp2_with (first|((with_reducible refine zah HB ?_);clear HB;intro w_ HB)|((with_reducible refine zae (d:=some 5) ?_);(first|refine boxa HB rfl ?_|refine boxt HB rfl rfl ?_|refine box1 HB rfl rfl ?_);clear HB;intro b5 w_ HB;refine Kx.fr ?_)|((with_reducible refine zaa (d:=some 5) ?_);(first|refine ala HB ?_|refine al1 HB ?_);clear HB;intro b5 w_ HB;refine Kx.fr ?_)|((with_reducible refine zae ?_);(first|refine boxa HB rfl ?_|refine boxt HB rfl rfl ?_|refine box1 HB rfl rfl ?_);clear HB;intro b_ w_ HB;refine Kx.fr ?_)|((with_reducible refine zaa ?_);(first|refine ala HB ?_|refine al1 HB ?_);clear HB;intro b_ w_ HB;refine Kx.fr ?_)|((with_reducible refine zab ?_);first|refine Kx.l1 HB rfl rfl ?_|refine Kx.la HB rfl ?_)|((with_reducible refine zac ?_);first|refine l1g HB rfl rfl rfl ?_|refine Kx.lag HB rfl rfl ?_)|((with_reducible refine zad ?_);(first|refine stwa HB rfl rfl ?_|refine sta HB rfl rfl ?_|refine Kx.stc HB rfl rfl ?_|refine Kx.stt HB rfl rfl rfl ?_|refine Kx.st1 HB rfl rfl rfl ?_);clear HB;intro w_ HB))
  refine zau HB (fun i=>false) (by kernel_rfl) ?_
  refine Kx.tk 0 rfl ?_
  first|refine xl1 1 rfl rfl rfl ?_|refine xla 1 rfl rfl ?_
  first|refine xl1 2 rfl rfl rfl ?_|refine xla 2 rfl rfl ?_
  refine Kx.tk 3 rfl ?_
  refine Kx.tk 4 rfl ?_
  refine Kx.tk 5 rfl ?_
  first|refine xl1 6 rfl rfl rfl ?_|refine xla 6 rfl rfl ?_
  first|refine xl1 7 rfl rfl rfl ?_|refine xla 7 rfl rfl ?_
  refine Kx.tk 8 rfl ?_
  refine Kx.tk 9 rfl ?_
  refine Kx.tk 10 rfl ?_
  refine Kx.tk 11 rfl ?_
  first|refine xl1 12 rfl rfl rfl ?_|refine xla 12 rfl rfl ?_
  refine Kx.tk 13 rfl ?_
  first|refine xl1 14 rfl rfl rfl ?_|refine xla 14 rfl rfl ?_
  refine Kx.tk 15 rfl ?_
  refine Kx.tk 16 rfl ?_
  refine Kx.tk 17 rfl ?_
  refine Kx.sk 18 rfl ?_
  refine Kx.sk 19 rfl ?_
  refine Kx.sk 20 rfl ?_
  refine Kx.sk 21 rfl ?_
  refine Kx.sk 22 rfl ?_
  refine Kx.tk 23 rfl ?_
  refine Kx.tk 24 rfl ?_
  refine Kx.sk 25 rfl ?_
  refine Kx.sk 26 rfl ?_
  refine Kx.sk 27 rfl ?_
  refine Kx.tk 28 rfl ?_
  refine Kx.tk 29 rfl ?_
  refine Kx.sk 30 rfl ?_
  refine Kx.sk 31 rfl ?_
  refine Kx.sk 32 rfl ?_
  refine Kx.sk 33 rfl ?_
  refine Kx.sk 34 rfl ?_
  refine Kx.tk 35 rfl ?_
  refine Kx.tk 36 rfl ?_
  refine zan (by kernel_rfl) ?_
  clear HB
  intro w_ HB_
  have HB:=Lib.hid HB_
  clear HB_
  go_wp2_with fail
  go_ret
  exact ⟨by rw [HE.out];rfl,HB.out.tail⟩
 have c3:(m.e == p.e)=true:=beq_iff_eq.2 q3
 by_cases q4:m.b=p.b
 case neg =>
  have c4:(m.b == p.b)=false:=beq_false_of_ne q4
  have HE:=Lib.hid (decide_eq_false (p:=zi1 f p m ph kd) (fun h=>q4 h.2.2.2.1))
  clear q1 q2 q3 q4
  go_enter Tryz.func73,Tryz.ntmps73
  go_wp2_with (first|((with_reducible refine zah HB ?_);clear HB;intro w_ HB)|((with_reducible refine zae (d:=some 5) ?_);(first|refine boxa HB rfl ?_|refine boxt HB rfl rfl ?_|refine box1 HB rfl rfl ?_);clear HB;intro b5 w_ HB;refine Kx.fr ?_)|((with_reducible refine zaa (d:=some 5) ?_);(first|refine ala HB ?_|refine al1 HB ?_);clear HB;intro b5 w_ HB;refine Kx.fr ?_)|((with_reducible refine zae ?_);(first|refine boxa HB rfl ?_|refine boxt HB rfl rfl ?_|refine box1 HB rfl rfl ?_);clear HB;intro b_ w_ HB;refine Kx.fr ?_)|((with_reducible refine zaa ?_);(first|refine ala HB ?_|refine al1 HB ?_);clear HB;intro b_ w_ HB;refine Kx.fr ?_)|((with_reducible refine zab ?_);first|refine Kx.l1 HB rfl rfl ?_|refine Kx.la HB rfl ?_)|((with_reducible refine zac ?_);first|refine l1g HB rfl rfl rfl ?_|refine Kx.lag HB rfl rfl ?_)|((with_reducible refine zad ?_);(first|refine stwa HB rfl rfl ?_|refine sta HB rfl rfl ?_|refine Kx.stc HB rfl rfl ?_|refine Kx.stt HB rfl rfl rfl ?_|refine Kx.st1 HB rfl rfl rfl ?_);clear HB;intro w_ HB))
  refine zau HB (fun i=>false) (by kernel_rfl) ?_
  refine Kx.tk 0 rfl ?_
  first|refine xl1 1 rfl rfl rfl ?_|refine xla 1 rfl rfl ?_
  first|refine xl1 2 rfl rfl rfl ?_|refine xla 2 rfl rfl ?_
  refine Kx.tk 3 rfl ?_
  refine Kx.tk 4 rfl ?_
  refine Kx.tk 5 rfl ?_
  first|refine xl1 6 rfl rfl rfl ?_|refine xla 6 rfl rfl ?_
  first|refine xl1 7 rfl rfl rfl ?_|refine xla 7 rfl rfl ?_
  refine Kx.tk 8 rfl ?_
  refine Kx.tk 9 rfl ?_
  refine Kx.tk 10 rfl ?_
  refine Kx.tk 11 rfl ?_
  first|refine xl1 12 rfl rfl rfl ?_|refine xla 12 rfl rfl ?_
  refine Kx.tk 13 rfl ?_
  first|refine xl1 14 rfl rfl rfl ?_|refine xla 14 rfl rfl ?_
  refine Kx.tk 15 rfl ?_
  refine Kx.tk 16 rfl ?_
  refine Kx.tk 17 rfl ?_
  refine Kx.tk 18 rfl ?_
  first|refine xl1 19 rfl rfl rfl ?_|refine xla 19 rfl rfl ?_
  refine Kx.tk 20 rfl ?_
  first|refine xl1 21 rfl rfl rfl ?_|refine xla 21 rfl rfl ?_
  refine Kx.tk 22 rfl ?_
  refine Kx.tk 23 rfl ?_
  refine Kx.tk 24 rfl ?_
  refine Kx.sk 25 rfl ?_
  refine Kx.sk 26 rfl ?_
  refine Kx.sk 27 rfl ?_
  refine Kx.tk 28 rfl ?_
  refine Kx.tk 29 rfl ?_
  refine Kx.sk 30 rfl ?_
  refine Kx.sk 31 rfl ?_
  refine Kx.sk 32 rfl ?_
  refine Kx.sk 33 rfl ?_
  refine Kx.sk 34 rfl ?_
  refine Kx.tk 35 rfl ?_
  refine Kx.tk 36 rfl ?_
  refine zan (by kernel_rfl) ?_
  clear HB
  intro w_ HB_
  have HB:=Lib.hid HB_
  clear HB_
  go_wp2_with fail
  go_ret
  exact ⟨by rw [HE.out];rfl,HB.out.tail⟩
 have c4:(m.b == p.b)=true:=beq_iff_eq.2 q4
 by_cases q5:0≤m.f
 case neg =>
  have c5:decide (0≤m.f)=false:=decide_eq_false q5
  have HE:=Lib.hid (decide_eq_false (p:=zi1 f p m ph kd) (fun h=>q5 h.2.2.2.2.1))
  clear q1 q2 q3 q4 q5
  go_enter Tryz.func73,Tryz.ntmps73
  go_wp2_with (first|((with_reducible refine zah HB ?_);clear HB;intro w_ HB)|((with_reducible refine zae (d:=some 5) ?_);(first|refine boxa HB rfl ?_|refine boxt HB rfl rfl ?_|refine box1 HB rfl rfl ?_);clear HB;intro b5 w_ HB;refine Kx.fr ?_)|((with_reducible refine zaa (d:=some 5) ?_);(first|refine ala HB ?_|refine al1 HB ?_);clear HB;intro b5 w_ HB;refine Kx.fr ?_)|((with_reducible refine zae ?_);(first|refine boxa HB rfl ?_|refine boxt HB rfl rfl ?_|refine box1 HB rfl rfl ?_);clear HB;intro b_ w_ HB;refine Kx.fr ?_)|((with_reducible refine zaa ?_);(first|refine ala HB ?_|refine al1 HB ?_);clear HB;intro b_ w_ HB;refine Kx.fr ?_)|((with_reducible refine zab ?_);first|refine Kx.l1 HB rfl rfl ?_|refine Kx.la HB rfl ?_)|((with_reducible refine zac ?_);first|refine l1g HB rfl rfl rfl ?_|refine Kx.lag HB rfl rfl ?_)|((with_reducible refine zad ?_);(first|refine stwa HB rfl rfl ?_|refine sta HB rfl rfl ?_|refine Kx.stc HB rfl rfl ?_|refine Kx.stt HB rfl rfl rfl ?_|refine Kx.st1 HB rfl rfl rfl ?_);clear HB;intro w_ HB))
  refine zau HB (fun i=>false) (by kernel_rfl) ?_
  refine Kx.tk 0 rfl ?_
  first|refine xl1 1 rfl rfl rfl ?_|refine xla 1 rfl rfl ?_
  first|refine xl1 2 rfl rfl rfl ?_|refine xla 2 rfl rfl ?_
  refine Kx.tk 3 rfl ?_
  refine Kx.tk 4 rfl ?_
  refine Kx.tk 5 rfl ?_
  first|refine xl1 6 rfl rfl rfl ?_|refine xla 6 rfl rfl ?_
  first|refine xl1 7 rfl rfl rfl ?_|refine xla 7 rfl rfl ?_
  refine Kx.tk 8 rfl ?_
  refine Kx.tk 9 rfl ?_
  refine Kx.tk 10 rfl ?_
  refine Kx.tk 11 rfl ?_
  first|refine xl1 12 rfl rfl rfl ?_|refine xla 12 rfl rfl ?_
  refine Kx.tk 13 rfl ?_
  first|refine xl1 14 rfl rfl rfl ?_|refine xla 14 rfl rfl ?_
  refine Kx.tk 15 rfl ?_
  refine Kx.tk 16 rfl ?_
  refine Kx.tk 17 rfl ?_
  refine Kx.tk 18 rfl ?_
  first|refine xl1 19 rfl rfl rfl ?_|refine xla 19 rfl rfl ?_
  refine Kx.tk 20 rfl ?_
  first|refine xl1 21 rfl rfl rfl ?_|refine xla 21 rfl rfl ?_
  refine Kx.tk 22 rfl ?_
  refine Kx.tk 23 rfl ?_
  refine Kx.tk 24 rfl ?_
  refine Kx.tk 25 rfl ?_
  first|refine xl1 26 rfl rfl rfl ?_|refine xla 26 rfl rfl ?_
  refine Kx.tk 27 rfl ?_
  refine Kx.tk 28 rfl ?_
  refine Kx.tk 29 rfl ?_
  refine Kx.sk 30 rfl ?_
  refine Kx.sk 31 rfl ?_
  refine Kx.sk 32 rfl ?_
  refine Kx.sk 33 rfl ?_
  refine Kx.sk 34 rfl ?_
  refine Kx.tk 35 rfl ?_
  refine Kx.tk 36 rfl ?_
  refine zan (by kernel_rfl) ?_
  clear HB
  intro w_ HB_
  have HB:=Lib.hid HB_
  clear HB_
  go_wp2_with fail
  go_ret
  exact ⟨by rw [HE.out];rfl,HB.out.tail⟩
 have c5:decide (0≤m.f)=true:=decide_eq_true q5
 have HE:Hid (decide (zi1 f p m ph kd)=decide (m.f < ((2 * f+1:Nat):Int))):=Lib.hid (by rw [decide_eq_decide];exact ⟨fun h=>by have:=h.2.2.2.2.2;omega,fun h=>⟨q1,q2,q3,q4,q5,by omega⟩⟩)
 clear q1 q2 q3 q4 q5
 generalize 2 * f+1=k at *
 go_enter Tryz.func73,Tryz.ntmps73
 go_wp2_with (first|((with_reducible refine zah HB ?_);clear HB;intro w_ HB)|((with_reducible refine zae (d:=some 5) ?_);(first|refine boxa HB rfl ?_|refine boxt HB rfl rfl ?_|refine box1 HB rfl rfl ?_);clear HB;intro b5 w_ HB;refine Kx.fr ?_)|((with_reducible refine zaa (d:=some 5) ?_);(first|refine ala HB ?_|refine al1 HB ?_);clear HB;intro b5 w_ HB;refine Kx.fr ?_)|((with_reducible refine zae ?_);(first|refine boxa HB rfl ?_|refine boxt HB rfl rfl ?_|refine box1 HB rfl rfl ?_);clear HB;intro b_ w_ HB;refine Kx.fr ?_)|((with_reducible refine zaa ?_);(first|refine ala HB ?_|refine al1 HB ?_);clear HB;intro b_ w_ HB;refine Kx.fr ?_)|((with_reducible refine zab ?_);first|refine Kx.l1 HB rfl rfl ?_|refine Kx.la HB rfl ?_)|((with_reducible refine zac ?_);first|refine l1g HB rfl rfl rfl ?_|refine Kx.lag HB rfl rfl ?_)|((with_reducible refine zad ?_);(first|refine stwa HB rfl rfl ?_|refine sta HB rfl rfl ?_|refine Kx.stc HB rfl rfl ?_|refine Kx.stt HB rfl rfl rfl ?_|refine Kx.st1 HB rfl rfl rfl ?_);clear HB;intro w_ HB))
 refine zau HB (fun i=>false) (by kernel_rfl) ?_
 refine Kx.tk 0 rfl ?_
 first|refine xl1 1 rfl rfl rfl ?_|refine xla 1 rfl rfl ?_
 first|refine xl1 2 rfl rfl rfl ?_|refine xla 2 rfl rfl ?_
 refine Kx.tk 3 rfl ?_
 refine Kx.tk 4 rfl ?_
 refine Kx.tk 5 rfl ?_
 first|refine xl1 6 rfl rfl rfl ?_|refine xla 6 rfl rfl ?_
 first|refine xl1 7 rfl rfl rfl ?_|refine xla 7 rfl rfl ?_
 refine Kx.tk 8 rfl ?_
 refine Kx.tk 9 rfl ?_
 refine Kx.tk 10 rfl ?_
 refine Kx.tk 11 rfl ?_
 first|refine xl1 12 rfl rfl rfl ?_|refine xla 12 rfl rfl ?_
 refine Kx.tk 13 rfl ?_
 first|refine xl1 14 rfl rfl rfl ?_|refine xla 14 rfl rfl ?_
 refine Kx.tk 15 rfl ?_
 refine Kx.tk 16 rfl ?_
 refine Kx.tk 17 rfl ?_
 refine Kx.tk 18 rfl ?_
 first|refine xl1 19 rfl rfl rfl ?_|refine xla 19 rfl rfl ?_
 refine Kx.tk 20 rfl ?_
 first|refine xl1 21 rfl rfl rfl ?_|refine xla 21 rfl rfl ?_
 refine Kx.tk 22 rfl ?_
 refine Kx.tk 23 rfl ?_
 refine Kx.tk 24 rfl ?_
 refine Kx.tk 25 rfl ?_
 first|refine xl1 26 rfl rfl rfl ?_|refine xla 26 rfl rfl ?_
 refine Kx.tk 27 rfl ?_
 refine Kx.tk 28 rfl ?_
 refine Kx.tk 29 rfl ?_
 refine Kx.tk 30 rfl ?_
 first|refine xl1 31 rfl rfl rfl ?_|refine xla 31 rfl rfl ?_
 first|refine xl1 32 rfl rfl rfl ?_|refine xla 32 rfl rfl ?_
 refine zdb (i:=33) (v := ?v33_1) (f := ?g33_1) (args := ?s33_1) (a' := ?a33_1) (by first|exact za7|exact zb7|assumption) rfl (by kernel_rfl) (by kernel_rfl) (by kernel_rfl) (fun _ _ _ h=>h) (by kernel_rfl) ?c33_1 ?w33_1 ?y33_1 ?f33_1 ?r33_1
 case w33_1=>kernel_rfl
 case y33_1=>(intro W hW;go_simp;first|(refine ⟨?_,?_⟩<;>with_reducible rfl)|with_reducible rfl)
 case c33_1=>(intro W hW;refine Calls.mono (HF.out _) ?_;rintro e w_ ⟨rfl,hb_⟩;refine ⟨?_,by first|exact hb_|exact hb_▸Below.refl _ _⟩;with_reducible rfl)
 case f33_1=>(go_simp;try with_reducible rfl)
 refine Kx.tk 34 rfl ?_
 refine Kx.tk 35 rfl ?_
 refine Kx.tk 36 rfl ?_
 refine zan (by kernel_rfl) ?_
 clear HB
 intro w_ HB_
 have HB:=Lib.hid HB_
 clear HB_
 go_wp2_with fail
 go_ret
 exact ⟨by rw [HE.out];rfl,HB.out.tail⟩
end
end Go.Proofs.YtponpgcpmlcdpaaGreatDoor
