import Derived.Test.YtponpgcpmlcdpaaGreatDoorGa
import Derived.Deep.CutBlock
import Derived.Deep.DeepCutAuto
set_option maxRecDepth 100000
namespace Go.Proofs.YtponpgcpmlcdpaaGreatDoor
open Go.RowKit Go.Shelf Km Kx Kc
set_option linter.unusedVariables false
theorem zbz {n lo hi:Int} (h:lo≤n∧n≤hi) (W:World):Calls Tryz.prog 71 #[.int .i64 n,.int .i64 lo,.int .i64 hi] W fun e w'=>e = .returned (.bool true)∧W=w':=by
 have k:=in13_any n lo hi W
 rwa [decide_eq_true h.1,decide_eq_true h.2] at k
theorem zcx {n:Int} (h:1≤n∧n≤1048576) (W:World):Calls Tryz.prog 72 #[.int .i64 n] W fun e w'=>e = .returned (.bool true)∧W=w':=by
 have k:=span_any n W
 rwa [decide_eq_true h.1,decide_eq_true h.2] at k
set_option maxHeartbeats 8000000 in
theorem zl5 (c : Cf) (xs : List Int) (B : Nat) (w : World) (hr : Rd w B c.ta (Kc.i64s xs)) (hB : B ≤ w.heap.size) (hl : xs.length = c.tn) (hcf : zfa c xs) :
  Calls Tryz.prog 43 #[.agg (cf c).toArray] w (Says w (zfa c xs)):=by
 have HB:=Lib.hid (Bxs.start w)
 have HRD:=Lib.hid (hr.more hB)
 have HL:=Lib.hid hl
 have HCf:=Lib.hid hcf
 clear hr hB hl hcf
 obtain ⟨yf,ydeciders,ytargets,yrouters,yobservers,yta,ytn,ytc,yevery,ywait,yrise,yfall,yfresh,yl,ym,ydwell,yd,yw,yb,yhit,ysuppress,yreuse,yhalf,yfirst,ystep,ystepTime,ys,ycap,yspan,yroom,ytries,yretry⟩:=c
 dsimp only [cf] at *
 go_enter Tryz.func43,Tryz.ntmps43
 go_upto_region 1 with (first|((with_reducible refine zah HB ?_);clear HB;intro w_ HB)|((with_reducible refine zae (d:=some 1) ?_);(first|refine boxa HB rfl ?_|refine boxt HB rfl rfl ?_|refine box1 HB rfl rfl ?_);clear HB;intro b1 w_ HB;refine Kx.fr ?_)|((with_reducible refine zaa (d:=some 1) ?_);(first|refine ala HB ?_|refine al1 HB ?_);clear HB;intro b1 w_ HB;refine Kx.fr ?_)|((with_reducible refine zae ?_);(first|refine boxa HB rfl ?_|refine boxt HB rfl rfl ?_|refine box1 HB rfl rfl ?_);clear HB;intro b_ w_ HB;refine Kx.fr ?_)|((with_reducible refine zaa ?_);(first|refine ala HB ?_|refine al1 HB ?_);clear HB;intro b_ w_ HB;refine Kx.fr ?_)|((with_reducible refine zab ?_);first|refine Kx.l1 HB rfl rfl ?_|refine Kx.la HB rfl ?_|refine Kx.lo HB rfl HC.out ?_)|((with_reducible refine zac ?_);first|refine l1g HB rfl rfl rfl ?_|refine Kx.lag HB rfl rfl ?_|refine Kx.log HB rfl HC.out rfl ?_)|((with_reducible refine zad ?_);(first|refine stwa HB rfl rfl ?_|refine sta HB rfl rfl ?_|refine Kx.stc HB rfl rfl ?_|refine Kx.stt HB rfl rfl rfl ?_|refine Kx.st1 HB rfl rfl rfl ?_);clear HB;intro w_ HB))
 by_cases hf:0≤yf∧yf≤3
 case neg=>exact absurd HCf.out.f hf
 have Hf:Hid (∀W,Calls Tryz.prog 71 #[.int .i64 yf,.int .i64 0,.int .i64 3] W fun e w'=>e = .returned (.bool true)∧W=w'):=Lib.hid (zbz hf)
 by_cases hdeciders:1≤ydeciders∧ydeciders≤4
 case neg=>exact absurd HCf.out.deciders hdeciders
 have Hdeciders:Hid (∀W,Calls Tryz.prog 71 #[.int .i64 ydeciders,.int .i64 1,.int .i64 4] W fun e w'=>e = .returned (.bool true)∧W=w'):=Lib.hid (zbz hdeciders)
 by_cases hrouters:1≤yrouters∧yrouters≤4
 case neg=>exact absurd HCf.out.routers hrouters
 have Hrouters:Hid (∀W,Calls Tryz.prog 71 #[.int .i64 yrouters,.int .i64 1,.int .i64 4] W fun e w'=>e = .returned (.bool true)∧W=w'):=Lib.hid (zbz hrouters)
 by_cases htargets:1≤ytargets∧ytargets≤16
 case neg=>exact absurd HCf.out.targets htargets
 have Htargets:Hid (∀W,Calls Tryz.prog 71 #[.int .i64 ytargets,.int .i64 1,.int .i64 16] W fun e w'=>e = .returned (.bool true)∧W=w'):=Lib.hid (zbz htargets)
 by_cases hobservers:1≤yobservers∧yobservers≤7
 case neg=>exact absurd HCf.out.observers hobservers
 have Hobservers:Hid (∀W,Calls Tryz.prog 71 #[.int .i64 yobservers,.int .i64 1,.int .i64 7] W fun e w'=>e = .returned (.bool true)∧W=w'):=Lib.hid (zbz hobservers)
 by_cases hn:(ytn:Int)=ytargets
 case neg=>exact absurd HCf.out.n hn
 subst hn
 have d1:((ytn:Int) != (ytn:Int))=false:=by simp
 have d2:((ytn:Int) == (ytn:Int))=true:=by simp
 go_upto_region 3 with (first|(go_at_call 71;with_reducible refine zav #[.int .i64 yf,_,_] ?_;refine (Hf.out _).mono ?_;rintro e w2 ⟨rfl,rfl⟩)|(go_at_call 71;with_reducible refine zav #[.int .i64 ydeciders,_,_] ?_;refine (Hdeciders.out _).mono ?_;rintro e w2 ⟨rfl,rfl⟩)|(go_at_call 71;with_reducible refine zav #[.int .i64 yrouters,_,_] ?_;refine (Hrouters.out _).mono ?_;rintro e w2 ⟨rfl,rfl⟩)|(go_at_call 71;with_reducible refine zav #[.int .i64 (ytn:Int),_,_] ?_;refine (Htargets.out _).mono ?_;rintro e w2 ⟨rfl,rfl⟩)|(go_at_call 71;with_reducible refine zav #[.int .i64 yobservers,_,_] ?_;refine (Hobservers.out _).mono ?_;rintro e w2 ⟨rfl,rfl⟩)|(first|((with_reducible refine zah HB ?_);clear HB;intro w_ HB)|((with_reducible refine zae (d:=some 1) ?_);(first|refine boxa HB rfl ?_|refine boxt HB rfl rfl ?_|refine box1 HB rfl rfl ?_);clear HB;intro b1 w_ HB;refine Kx.fr ?_)|((with_reducible refine zaa (d:=some 1) ?_);(first|refine ala HB ?_|refine al1 HB ?_);clear HB;intro b1 w_ HB;refine Kx.fr ?_)|((with_reducible refine zae ?_);(first|refine boxa HB rfl ?_|refine boxt HB rfl rfl ?_|refine box1 HB rfl rfl ?_);clear HB;intro b_ w_ HB;refine Kx.fr ?_)|((with_reducible refine zaa ?_);(first|refine ala HB ?_|refine al1 HB ?_);clear HB;intro b_ w_ HB;refine Kx.fr ?_)|((with_reducible refine zab ?_);first|refine Kx.l1 HB rfl rfl ?_|refine Kx.la HB rfl ?_|refine Kx.lo HB rfl HC.out ?_)|((with_reducible refine zac ?_);first|refine l1g HB rfl rfl rfl ?_|refine Kx.lag HB rfl rfl ?_|refine Kx.log HB rfl HC.out rfl ?_)|((with_reducible refine zad ?_);(first|refine stwa HB rfl rfl ?_|refine sta HB rfl rfl ?_|refine Kx.stc HB rfl rfl ?_|refine Kx.stt HB rfl rfl rfl ?_|refine Kx.st1 HB rfl rfl rfl ?_);clear HB;intro w_ HB)))
 clear d1 d2 Hf Hdeciders Hrouters Htargets Hobservers
 go_wp2_with (first|((with_reducible refine zah HB ?_);clear HB;intro w_ HB)|((with_reducible refine zae (d:=some 1) ?_);(first|refine boxa HB rfl ?_|refine boxt HB rfl rfl ?_|refine box1 HB rfl rfl ?_);clear HB;intro b1 w_ HB;refine Kx.fr ?_)|((with_reducible refine zaa (d:=some 1) ?_);(first|refine ala HB ?_|refine al1 HB ?_);clear HB;intro b1 w_ HB;refine Kx.fr ?_)|((with_reducible refine zae ?_);(first|refine boxa HB rfl ?_|refine boxt HB rfl rfl ?_|refine box1 HB rfl rfl ?_);clear HB;intro b_ w_ HB;refine Kx.fr ?_)|((with_reducible refine zaa ?_);(first|refine ala HB ?_|refine al1 HB ?_);clear HB;intro b_ w_ HB;refine Kx.fr ?_)|((with_reducible refine zab ?_);first|refine Kx.l1 HB rfl rfl ?_|refine Kx.la HB rfl ?_|refine Kx.lo HB rfl HC.out ?_)|((with_reducible refine zac ?_);first|refine l1g HB rfl rfl rfl ?_|refine Kx.lag HB rfl rfl ?_|refine Kx.log HB rfl HC.out rfl ?_)|((with_reducible refine zad ?_);(first|refine stwa HB rfl rfl ?_|refine sta HB rfl rfl ?_|refine Kx.stc HB rfl rfl ?_|refine Kx.stt HB rfl rfl rfl ?_|refine Kx.st1 HB rfl rfl rfl ?_);clear HB;intro w_ HB))
 go_loopg [3] ytn (fun gh ix wr=>∃k:Nat,gh+k=ytn∧ix = .int .i64 (k:Int)∧Hid (Bxs w wr [(b1,[.int .i64 (yf:Int),.int .i64 (ydeciders:Int),.int .i64 ((ytn:Int):Int),.int .i64 (yrouters:Int),.int .i64 (yobservers:Int),.slice yta ytn ytc,.int .i64 (yevery:Int),.int .i64 (ywait:Int),.int .i64 (yrise:Int),.int .i64 (yfall:Int),.int .i64 (yfresh:Int),.int .i64 (yl:Int),.int .i64 (ym:Int),.int .i64 (ydwell:Int),.int .i64 (yd:Int),.int .i64 (yw:Int),.int .i64 (yb:Int),.int .i64 (yhit:Int),.int .i64 (ysuppress:Int),.int .i64 (yreuse:Int),.int .i64 (yhalf:Int),.int .i64 (yfirst:Int),.int .i64 (ystep:Int),.int .i64 (ystepTime:Int),.int .i64 (ys:Int),.int .i64 (ycap:Int),.int .i64 (yspan:Int),.int .i64 (yroom:Int),.int .i64 (ytries:Int),.int .i64 (yretry:Int)])])∧Hid (∀j,j < k→0≤xs.getD j 0∧xs.getD j 0≤15))
 case atStart=>exact ⟨0,by omega,rfl,HB,Lib.hid (fun j hj=>by omega)⟩
 case round =>
  clear HB
  obtain ⟨k,hk,rfl,HB,HI⟩:=hrel
  by_cases hlt:k < ytn
  ·obtain ⟨ad,e1,-,hc⟩:=HRD.out.num (k:=k) (by rw [HL.out];exact hlt)
   subst e1
   have hmem:=getD_mem (l:=xs) (k:=k) (by rw [HL.out];exact hlt)
   obtain ⟨v,hv⟩ : ∃v,xs.getD k 0=v:=⟨_,rfl⟩
   rw [hv] at hc hmem
   have HC:=Lib.hid hc
   have HM:=Lib.hid hmem
   have HV:=Lib.hid hv
   have d3:(k:Int) < (ytn:Int):=by omega
   clear hc hmem hv
   by_cases hx:0≤v∧v≤15
   case neg=>exact absurd (HCf.out.ti v HM.out) hx
   have Hv:Hid (∀W,Calls Tryz.prog 71 #[.int .i64 v,.int .i64 0,.int .i64 15] W fun e w'=>e = .returned (.bool true)∧W=w'):=Lib.hid (zbz hx)
   go_wp2_with (first|(go_at_call 71;refine (Hv.out _).mono ?_;rintro e w2 ⟨rfl,rfl⟩)|(first|((with_reducible refine zah HB ?_);clear HB;intro w_ HB)|((with_reducible refine zae (d:=some 1) ?_);(first|refine boxa HB rfl ?_|refine boxt HB rfl rfl ?_|refine box1 HB rfl rfl ?_);clear HB;intro b1 w_ HB;refine Kx.fr ?_)|((with_reducible refine zaa (d:=some 1) ?_);(first|refine ala HB ?_|refine al1 HB ?_);clear HB;intro b1 w_ HB;refine Kx.fr ?_)|((with_reducible refine zae ?_);(first|refine boxa HB rfl ?_|refine boxt HB rfl rfl ?_|refine box1 HB rfl rfl ?_);clear HB;intro b_ w_ HB;refine Kx.fr ?_)|((with_reducible refine zaa ?_);(first|refine ala HB ?_|refine al1 HB ?_);clear HB;intro b_ w_ HB;refine Kx.fr ?_)|((with_reducible refine zab ?_);first|refine Kx.l1 HB rfl rfl ?_|refine Kx.la HB rfl ?_|refine Kx.lo HB rfl HC.out ?_)|((with_reducible refine zac ?_);first|refine l1g HB rfl rfl rfl ?_|refine Kx.lag HB rfl rfl ?_|refine Kx.log HB rfl HC.out rfl ?_)|((with_reducible refine zad ?_);(first|refine stwa HB rfl rfl ?_|refine sta HB rfl rfl ?_|refine Kx.stc HB rfl rfl ?_|refine Kx.stt HB rfl rfl rfl ?_|refine Kx.st1 HB rfl rfl rfl ?_);clear HB;intro w_ HB)))
   go_roundg (gk - 1)
   case measure=>omega
   case rel=>exact ⟨k+1,by omega,by go_num,HB,Lib.hid (fun j hj=>by
    rcases Nat.lt_or_ge j k with h|h
    ·exact HI.out j h
    ·obtain rfl:j=k:=by omega
     rw [HV.out];exact hx)⟩
  ·obtain rfl:k=ytn:=by omega
   have d0:decide ((k:Int) < (k:Int))=false:=by simp
   have HTI:Hid (∀v∈xs,0≤v∧v≤15):=Lib.hid (fun v hv=>by
    obtain ⟨j,hj,rfl⟩:=mem_getD hv
    exact HI.out j (by rw [←HL.out];exact hj))
   clear HI hlt hk
   go_upto_region 8 with (first|((with_reducible refine zah HB ?_);clear HB;intro w_ HB)|((with_reducible refine zae (d:=some 1) ?_);(first|refine boxa HB rfl ?_|refine boxt HB rfl rfl ?_|refine box1 HB rfl rfl ?_);clear HB;intro b1 w_ HB;refine Kx.fr ?_)|((with_reducible refine zaa (d:=some 1) ?_);(first|refine ala HB ?_|refine al1 HB ?_);clear HB;intro b1 w_ HB;refine Kx.fr ?_)|((with_reducible refine zae ?_);(first|refine boxa HB rfl ?_|refine boxt HB rfl rfl ?_|refine box1 HB rfl rfl ?_);clear HB;intro b_ w_ HB;refine Kx.fr ?_)|((with_reducible refine zaa ?_);(first|refine ala HB ?_|refine al1 HB ?_);clear HB;intro b_ w_ HB;refine Kx.fr ?_)|((with_reducible refine zab ?_);first|refine Kx.l1 HB rfl rfl ?_|refine Kx.la HB rfl ?_|refine Kx.lo HB rfl HC.out ?_)|((with_reducible refine zac ?_);first|refine l1g HB rfl rfl rfl ?_|refine Kx.lag HB rfl rfl ?_|refine Kx.log HB rfl HC.out rfl ?_)|((with_reducible refine zad ?_);(first|refine stwa HB rfl rfl ?_|refine sta HB rfl rfl ?_|refine Kx.stc HB rfl rfl ?_|refine Kx.stt HB rfl rfl rfl ?_|refine Kx.st1 HB rfl rfl rfl ?_);clear HB;intro w_ HB))
   simp only [List.append_eq,List.cons_append,List.nil_append]
   by_cases hevery:1≤yevery∧yevery≤1048576
   case neg=>exact absurd HCf.out.every hevery
   have Hevery:Hid (∀W,Calls Tryz.prog 72 #[.int .i64 yevery] W fun e w'=>e = .returned (.bool true)∧W=w'):=Lib.hid (zcx hevery)
   by_cases hwait:1≤ywait∧ywait≤1048576
   case neg=>exact absurd HCf.out.wait hwait
   have Hwait:Hid (∀W,Calls Tryz.prog 72 #[.int .i64 ywait] W fun e w'=>e = .returned (.bool true)∧W=w'):=Lib.hid (zcx hwait)
   by_cases hfresh:1≤yfresh∧yfresh≤1048576
   case neg=>exact absurd HCf.out.fresh hfresh
   have Hfresh:Hid (∀W,Calls Tryz.prog 72 #[.int .i64 yfresh] W fun e w'=>e = .returned (.bool true)∧W=w'):=Lib.hid (zcx hfresh)
   by_cases hl:1≤yl∧yl≤1048576
   case neg=>exact absurd HCf.out.l hl
   have Hl:Hid (∀W,Calls Tryz.prog 72 #[.int .i64 yl] W fun e w'=>e = .returned (.bool true)∧W=w'):=Lib.hid (zcx hl)
   by_cases hdwell:1≤ydwell∧ydwell≤1048576
   case neg=>exact absurd HCf.out.dwell hdwell
   have Hdwell:Hid (∀W,Calls Tryz.prog 72 #[.int .i64 ydwell] W fun e w'=>e = .returned (.bool true)∧W=w'):=Lib.hid (zcx hdwell)
   by_cases hd:1≤yd∧yd≤1048576
   case neg=>exact absurd HCf.out.d hd
   have Hd:Hid (∀W,Calls Tryz.prog 72 #[.int .i64 yd] W fun e w'=>e = .returned (.bool true)∧W=w'):=Lib.hid (zcx hd)
   by_cases hw:1≤yw∧yw≤1048576
   case neg=>exact absurd HCf.out.w hw
   have Hw:Hid (∀W,Calls Tryz.prog 72 #[.int .i64 yw] W fun e w'=>e = .returned (.bool true)∧W=w'):=Lib.hid (zcx hw)
   by_cases hhalf:1≤yhalf∧yhalf≤1048576
   case neg=>exact absurd HCf.out.half hhalf
   have Hhalf:Hid (∀W,Calls Tryz.prog 72 #[.int .i64 yhalf] W fun e w'=>e = .returned (.bool true)∧W=w'):=Lib.hid (zcx hhalf)
   by_cases hstepTime:1≤ystepTime∧ystepTime≤1048576
   case neg=>exact absurd HCf.out.stepTime hstepTime
   have HstepTime:Hid (∀W,Calls Tryz.prog 72 #[.int .i64 ystepTime] W fun e w'=>e = .returned (.bool true)∧W=w'):=Lib.hid (zcx hstepTime)
   by_cases hs:1≤ys∧ys≤1048576
   case neg=>exact absurd HCf.out.s hs
   have Hs:Hid (∀W,Calls Tryz.prog 72 #[.int .i64 ys] W fun e w'=>e = .returned (.bool true)∧W=w'):=Lib.hid (zcx hs)
   by_cases hspan:1≤yspan∧yspan≤1048576
   case neg=>exact absurd HCf.out.span hspan
   have Hspan:Hid (∀W,Calls Tryz.prog 72 #[.int .i64 yspan] W fun e w'=>e = .returned (.bool true)∧W=w'):=Lib.hid (zcx hspan)
   by_cases hretry:1≤yretry∧yretry≤1048576
   case neg=>exact absurd HCf.out.retry hretry
   have Hretry:Hid (∀W,Calls Tryz.prog 72 #[.int .i64 yretry] W fun e w'=>e = .returned (.bool true)∧W=w'):=Lib.hid (zcx hretry)
   by_cases hm1:ym < 0
   case pos=>exact absurd hm1 (by have h:=HCf.out.m;dsimp only at h;omega)
   have dm1:decide (ym < (0:Int))=false:=by simp;omega
   by_cases hm2:1048576 < ym
   case pos=>exact absurd hm2 (by have h:=HCf.out.m;dsimp only at h;omega)
   have dm2:decide ((1048576:Int) < ym)=false:=by simp;omega
   go_upto_region 10 with (first|(go_at_call 72;with_reducible refine zav #[.int .i64 yevery] ?_;refine (Hevery.out _).mono ?_;rintro e w2 ⟨rfl,rfl⟩)|(go_at_call 72;with_reducible refine zav #[.int .i64 ywait] ?_;refine (Hwait.out _).mono ?_;rintro e w2 ⟨rfl,rfl⟩)|(go_at_call 72;with_reducible refine zav #[.int .i64 yfresh] ?_;refine (Hfresh.out _).mono ?_;rintro e w2 ⟨rfl,rfl⟩)|(go_at_call 72;with_reducible refine zav #[.int .i64 yl] ?_;refine (Hl.out _).mono ?_;rintro e w2 ⟨rfl,rfl⟩)|(go_at_call 72;with_reducible refine zav #[.int .i64 ydwell] ?_;refine (Hdwell.out _).mono ?_;rintro e w2 ⟨rfl,rfl⟩)|(go_at_call 72;with_reducible refine zav #[.int .i64 yd] ?_;refine (Hd.out _).mono ?_;rintro e w2 ⟨rfl,rfl⟩)|(go_at_call 72;with_reducible refine zav #[.int .i64 yw] ?_;refine (Hw.out _).mono ?_;rintro e w2 ⟨rfl,rfl⟩)|(go_at_call 72;with_reducible refine zav #[.int .i64 yhalf] ?_;refine (Hhalf.out _).mono ?_;rintro e w2 ⟨rfl,rfl⟩)|(go_at_call 72;with_reducible refine zav #[.int .i64 ystepTime] ?_;refine (HstepTime.out _).mono ?_;rintro e w2 ⟨rfl,rfl⟩)|(go_at_call 72;with_reducible refine zav #[.int .i64 ys] ?_;refine (Hs.out _).mono ?_;rintro e w2 ⟨rfl,rfl⟩)|(go_at_call 72;with_reducible refine zav #[.int .i64 yspan] ?_;refine (Hspan.out _).mono ?_;rintro e w2 ⟨rfl,rfl⟩)|(go_at_call 72;with_reducible refine zav #[.int .i64 yretry] ?_;refine (Hretry.out _).mono ?_;rintro e w2 ⟨rfl,rfl⟩)|(first|((with_reducible refine zah HB ?_);clear HB;intro w_ HB)|((with_reducible refine zae (d:=some 1) ?_);(first|refine boxa HB rfl ?_|refine boxt HB rfl rfl ?_|refine box1 HB rfl rfl ?_);clear HB;intro b1 w_ HB;refine Kx.fr ?_)|((with_reducible refine zaa (d:=some 1) ?_);(first|refine ala HB ?_|refine al1 HB ?_);clear HB;intro b1 w_ HB;refine Kx.fr ?_)|((with_reducible refine zae ?_);(first|refine boxa HB rfl ?_|refine boxt HB rfl rfl ?_|refine box1 HB rfl rfl ?_);clear HB;intro b_ w_ HB;refine Kx.fr ?_)|((with_reducible refine zaa ?_);(first|refine ala HB ?_|refine al1 HB ?_);clear HB;intro b_ w_ HB;refine Kx.fr ?_)|((with_reducible refine zab ?_);first|refine Kx.l1 HB rfl rfl ?_|refine Kx.la HB rfl ?_|refine Kx.lo HB rfl HC.out ?_)|((with_reducible refine zac ?_);first|refine l1g HB rfl rfl rfl ?_|refine Kx.lag HB rfl rfl ?_|refine Kx.log HB rfl HC.out rfl ?_)|((with_reducible refine zad ?_);(first|refine stwa HB rfl rfl ?_|refine sta HB rfl rfl ?_|refine Kx.stc HB rfl rfl ?_|refine Kx.stt HB rfl rfl rfl ?_|refine Kx.st1 HB rfl rfl rfl ?_);clear HB;intro w_ HB)))
   clear dm1 dm2 Hevery Hwait Hfresh Hl Hdwell Hd Hw Hhalf HstepTime Hs Hspan Hretry
   by_cases hrise:1≤yrise∧yrise≤100
   case neg=>exact absurd HCf.out.rise hrise
   have Hrise:Hid (∀W,Calls Tryz.prog 71 #[.int .i64 yrise,.int .i64 1,.int .i64 100] W fun e w'=>e = .returned (.bool true)∧W=w'):=Lib.hid (zbz hrise)
   by_cases hfall:1≤yfall∧yfall≤100
   case neg=>exact absurd HCf.out.fall hfall
   have Hfall:Hid (∀W,Calls Tryz.prog 71 #[.int .i64 yfall,.int .i64 1,.int .i64 100] W fun e w'=>e = .returned (.bool true)∧W=w'):=Lib.hid (zbz hfall)
   by_cases hb:1≤yb∧yb≤8
   case neg=>exact absurd HCf.out.b hb
   have Hb:Hid (∀W,Calls Tryz.prog 71 #[.int .i64 yb,.int .i64 1,.int .i64 8] W fun e w'=>e = .returned (.bool true)∧W=w'):=Lib.hid (zbz hb)
   by_cases hhit:0≤yhit∧yhit≤1000000
   case neg=>exact absurd HCf.out.hit hhit
   have Hhit:Hid (∀W,Calls Tryz.prog 71 #[.int .i64 yhit,.int .i64 0,.int .i64 1000000] W fun e w'=>e = .returned (.bool true)∧W=w'):=Lib.hid (zbz hhit)
   by_cases hsuppress:1≤ysuppress∧ysuppress≤1000000
   case neg=>exact absurd HCf.out.suppress hsuppress
   have Hsuppress:Hid (∀W,Calls Tryz.prog 71 #[.int .i64 ysuppress,.int .i64 1,.int .i64 1000000] W fun e w'=>e = .returned (.bool true)∧W=w'):=Lib.hid (zbz hsuppress)
   have hws:IntKind.i64.wrap (ysuppress - 1)=ysuppress - 1:=by rw [IntKind.wrap_i64];omega
   by_cases hreuse:0≤yreuse∧yreuse≤ysuppress - 1
   case neg=>exact absurd HCf.out.reuse hreuse
   have Hreuse:Hid (∀W,Calls Tryz.prog 71 #[.int .i64 yreuse,.int .i64 0,.int .i64 (ysuppress - 1)] W fun e w'=>e = .returned (.bool true)∧W=w'):=Lib.hid (zbz hreuse)
   go_upto_region 12 with (first|(go_at_call 71;with_reducible refine zav #[.int .i64 yrise,_,_] ?_;refine (Hrise.out _).mono ?_;rintro e w2 ⟨rfl,rfl⟩)|(go_at_call 71;with_reducible refine zav #[.int .i64 yfall,_,_] ?_;refine (Hfall.out _).mono ?_;rintro e w2 ⟨rfl,rfl⟩)|(go_at_call 71;with_reducible refine zav #[.int .i64 yb,_,_] ?_;refine (Hb.out _).mono ?_;rintro e w2 ⟨rfl,rfl⟩)|(go_at_call 71;with_reducible refine zav #[.int .i64 yhit,_,_] ?_;refine (Hhit.out _).mono ?_;rintro e w2 ⟨rfl,rfl⟩)|(go_at_call 71;with_reducible refine zav #[.int .i64 ysuppress,_,_] ?_;refine (Hsuppress.out _).mono ?_;rintro e w2 ⟨rfl,rfl⟩)|(go_at_call 71;with_reducible refine zav #[.int .i64 yreuse,_,_] ?_;refine (Hreuse.out _).mono ?_;rintro e w2 ⟨rfl,rfl⟩)|(first|((with_reducible refine zah HB ?_);clear HB;intro w_ HB)|((with_reducible refine zae (d:=some 1) ?_);(first|refine boxa HB rfl ?_|refine boxt HB rfl rfl ?_|refine box1 HB rfl rfl ?_);clear HB;intro b1 w_ HB;refine Kx.fr ?_)|((with_reducible refine zaa (d:=some 1) ?_);(first|refine ala HB ?_|refine al1 HB ?_);clear HB;intro b1 w_ HB;refine Kx.fr ?_)|((with_reducible refine zae ?_);(first|refine boxa HB rfl ?_|refine boxt HB rfl rfl ?_|refine box1 HB rfl rfl ?_);clear HB;intro b_ w_ HB;refine Kx.fr ?_)|((with_reducible refine zaa ?_);(first|refine ala HB ?_|refine al1 HB ?_);clear HB;intro b_ w_ HB;refine Kx.fr ?_)|((with_reducible refine zab ?_);first|refine Kx.l1 HB rfl rfl ?_|refine Kx.la HB rfl ?_|refine Kx.lo HB rfl HC.out ?_)|((with_reducible refine zac ?_);first|refine l1g HB rfl rfl rfl ?_|refine Kx.lag HB rfl rfl ?_|refine Kx.log HB rfl HC.out rfl ?_)|((with_reducible refine zad ?_);(first|refine stwa HB rfl rfl ?_|refine sta HB rfl rfl ?_|refine Kx.stc HB rfl rfl ?_|refine Kx.stt HB rfl rfl rfl ?_|refine Kx.st1 HB rfl rfl rfl ?_);clear HB;intro w_ HB)))
   clear hws Hrise Hfall Hb Hhit Hsuppress Hreuse
   by_cases hfirst:1≤yfirst∧yfirst≤100
   case neg=>exact absurd HCf.out.first hfirst
   have Hfirst:Hid (∀W,Calls Tryz.prog 71 #[.int .i64 yfirst,.int .i64 1,.int .i64 100] W fun e w'=>e = .returned (.bool true)∧W=w'):=Lib.hid (zbz hfirst)
   by_cases hstep:1≤ystep∧ystep≤100
   case neg=>exact absurd HCf.out.step hstep
   have Hstep:Hid (∀W,Calls Tryz.prog 71 #[.int .i64 ystep,.int .i64 1,.int .i64 100] W fun e w'=>e = .returned (.bool true)∧W=w'):=Lib.hid (zbz hstep)
   by_cases hcap:1≤ycap∧ycap≤1000
   case neg=>exact absurd HCf.out.cap hcap
   have Hcap:Hid (∀W,Calls Tryz.prog 71 #[.int .i64 ycap,.int .i64 1,.int .i64 1000] W fun e w'=>e = .returned (.bool true)∧W=w'):=Lib.hid (zbz hcap)
   by_cases hroom:1≤yroom∧yroom≤64
   case neg=>exact absurd HCf.out.room hroom
   have Hroom:Hid (∀W,Calls Tryz.prog 71 #[.int .i64 yroom,.int .i64 1,.int .i64 64] W fun e w'=>e = .returned (.bool true)∧W=w'):=Lib.hid (zbz hroom)
   by_cases htries:1≤ytries∧ytries≤20
   case neg=>exact absurd HCf.out.tries htries
   have Htries:Hid (∀W,Calls Tryz.prog 71 #[.int .i64 ytries,.int .i64 1,.int .i64 20] W fun e w'=>e = .returned (.bool true)∧W=w'):=Lib.hid (zbz htries)
   go_wp2_with (first|(go_at_call 71;with_reducible refine zav #[.int .i64 yfirst,_,_] ?_;refine (Hfirst.out _).mono ?_;rintro e w2 ⟨rfl,rfl⟩)|(go_at_call 71;with_reducible refine zav #[.int .i64 ystep,_,_] ?_;refine (Hstep.out _).mono ?_;rintro e w2 ⟨rfl,rfl⟩)|(go_at_call 71;with_reducible refine zav #[.int .i64 ycap,_,_] ?_;refine (Hcap.out _).mono ?_;rintro e w2 ⟨rfl,rfl⟩)|(go_at_call 71;with_reducible refine zav #[.int .i64 yroom,_,_] ?_;refine (Hroom.out _).mono ?_;rintro e w2 ⟨rfl,rfl⟩)|(go_at_call 71;with_reducible refine zav #[.int .i64 ytries,_,_] ?_;refine (Htries.out _).mono ?_;rintro e w2 ⟨rfl,rfl⟩)|(first|((with_reducible refine zah HB ?_);clear HB;intro w_ HB)|((with_reducible refine zae (d:=some 1) ?_);(first|refine boxa HB rfl ?_|refine boxt HB rfl rfl ?_|refine box1 HB rfl rfl ?_);clear HB;intro b1 w_ HB;refine Kx.fr ?_)|((with_reducible refine zaa (d:=some 1) ?_);(first|refine ala HB ?_|refine al1 HB ?_);clear HB;intro b1 w_ HB;refine Kx.fr ?_)|((with_reducible refine zae ?_);(first|refine boxa HB rfl ?_|refine boxt HB rfl rfl ?_|refine box1 HB rfl rfl ?_);clear HB;intro b_ w_ HB;refine Kx.fr ?_)|((with_reducible refine zaa ?_);(first|refine ala HB ?_|refine al1 HB ?_);clear HB;intro b_ w_ HB;refine Kx.fr ?_)|((with_reducible refine zab ?_);first|refine Kx.l1 HB rfl rfl ?_|refine Kx.la HB rfl ?_|refine Kx.lo HB rfl HC.out ?_)|((with_reducible refine zac ?_);first|refine l1g HB rfl rfl rfl ?_|refine Kx.lag HB rfl rfl ?_|refine Kx.log HB rfl HC.out rfl ?_)|((with_reducible refine zad ?_);(first|refine stwa HB rfl rfl ?_|refine sta HB rfl rfl ?_|refine Kx.stc HB rfl rfl ?_|refine Kx.stt HB rfl rfl rfl ?_|refine Kx.st1 HB rfl rfl rfl ?_);clear HB;intro w_ HB)))
   go_ret
   exact zns rfl ⟨hf,hdeciders,hrouters,htargets,hobservers,rfl,HTI.out,hevery,hwait,hfresh,hl,hdwell,hd,hw,hhalf,hstepTime,hs,hspan,hretry,⟨by dsimp only;omega,by dsimp only;omega⟩,hrise,hfall,hb,hhit,hsuppress,hreuse,hfirst,hstep,hcap,hroom,htries⟩ HB.out.below
end Go.Proofs.YtponpgcpmlcdpaaGreatDoor
namespace Go.Proofs.YtponpgcpmlcdpaaGreatDoor
open Go.RowKit Go.Shelf Km Kx Kc
set_option linter.unusedVariables false
set_option maxHeartbeats 1000000 in
theorem Zero_any (c : Cf) (xs : List Int) (N B : Nat) (w : World) (hr : Rd w B c.ta (Kc.i64s xs)) (hB : B ≤ w.heap.size) (hl : xs.length = c.tn) (hc : zfa c xs) (hN : c.targets = (N : Int)) :
  Calls Tryz.prog 17 #[.agg (cf c).toArray] w fun e w'=>∃A k,e = .returned (.agg (pc (zp N) A N k none 0 0).toArray)∧Below w.heap.size w w'∧w'.ownsRow w.heap.size 3 1 (.slice A N k) N (Kc.i64s (List.replicate N 0)):=by
 have HB:=Lib.hid (Bxs.start w)
 have h16:N≤16:=by have:=hc.targets.2;omega
 have HR:Hid (∀W,Below w.heap.size w W→Calls Tryz.prog 43 #[.agg (cf c).toArray] W fun e w'=>e = .returned (.bool true)∧Below W.heap.size W w'):=Lib.hid (fun W hb=>by
  refine (zl5 c xs w.heap.size W ((hr.more hB).below hb) hb.size hl hc).mono ?_
  rintro e w' ⟨q,rfl,hq,hbb⟩
  refine ⟨?_,hbb⟩
  rw [hq.2 hc])
 clear hr hB hl hc
 obtain ⟨i0,hi,hz0,hz1,hz2⟩:=info_parts (P:=Tryz.prog) (e:=3) (z:=.int .i64 0) (size:=1) (bytes:=8) (by kernel_rfl)
 obtain ⟨yf,ydeciders,ytargets,yrouters,yobservers,yta,ytn,ytc,yevery,ywait,yrise,yfall,yfresh,yl,ym,ydwell,yd,yw,yb,yhit,ysuppress,yreuse,yhalf,yfirst,ystep,ystepTime,ys,ycap,yspan,yroom,ytries,yretry⟩:=c
 dsimp only [cf] at *
 subst hN
 go_enter Tryz.func17,Tryz.ntmps17
 go_wp2_with (first|(at_make;go_must (refine wpList_make_full _ rfl _ _ 22 rfl w.heap.size 3 i0 (.int .i64 0) 1 Tryz.underlying22 hi hz0 hz1 .i64 .i64 (N:Int) (N:Int) N rfl rfl rfl rfl (by rw [hz2];omega) (by unfold maxLen;omega) HB.out.size ?_);intro w1 hown hgrow;rw [zli] at hown;replace HB:=Lib.hid (HB.out.row hgrow (y:=⟨some ⟨_,0,none⟩,N,3,1,N,Kc.i64s (List.replicate N 0)⟩) hown (.inr rfl));clear hown hgrow)|((with_reducible refine Kx.zbk ?_);refine Km.wpList_build rfl 34 _ rfl #[(1,.int .i64 (-1)),(2,.int .i64 (-1)),(3,.int .i64 (-1)),(10,.slice (some ⟨_,0,none⟩) N N)] (by first|rfl|(go_simp;try rfl)) (pc (zp N) (some ⟨_,0,none⟩) N N none 0 0).toArray (znn _ N N) ?_;refine Kx.framed ?_ (by simp only [Act.put,List.setIfInBounds_toArray,List.set_cons_succ,List.set_cons_zero]<;>rfl))|(go_at_call 43;refine Calls.mono (HR.out _ HB.out.below) ?_;rintro e w_ ⟨rfl,hb_⟩;replace HB:=Lib.hid (HB.out.call hb_);clear hb_)|(first|((with_reducible refine zah HB ?_);clear HB;intro w_ HB)|((with_reducible refine zae ?_);(first|refine boxa HB rfl ?_|refine boxt HB rfl rfl ?_|refine box1 HB rfl rfl ?_);clear HB;intro b_ w_ HB;refine Kx.fr ?_)|((with_reducible refine zaa ?_);(first|refine ala HB ?_|refine al1 HB ?_);clear HB;intro b_ w_ HB;refine Kx.fr ?_)|((with_reducible refine zab ?_);first|refine Kx.l1 HB rfl rfl ?_|refine Kx.la HB rfl ?_|refine Kx.lo HB rfl HC.out ?_)|((with_reducible refine zac ?_);first|refine l1g HB rfl rfl rfl ?_|refine Kx.lag HB rfl rfl ?_|refine Kx.log HB rfl HC.out rfl ?_)|((with_reducible refine zad ?_);(first|refine stwa HB rfl rfl ?_|refine sta HB rfl rfl ?_|refine Kx.stc HB rfl rfl ?_|refine Kx.stt HB rfl rfl rfl ?_|refine Kx.st1 HB rfl rfl rfl ?_);clear HB;intro w_ HB)))
 refine bodyPost_ret (Kx.zbh HB rfl _ _ _ rfl (by first|(simp<;>rfl)|rfl) (by first|(simp<;>rfl)|rfl)) rfl ?_;exact ⟨_,_,rfl,HB.out.below,(HB.out.rows _ (List.Mem.head _)).1⟩
end Go.Proofs.YtponpgcpmlcdpaaGreatDoor
