import Derived.Test.YtponpgcpmlcdpaaGreatDoorOrz
import Derived.Test.YtponpgcpmlcdpaaGreatDoorOxx
import Derived.Test.YtponpgcpmlcdpaaGreatDoorAzk
namespace Go.Proofs.YtponpgcpmlcdpaaGreatDoor
open Go.RowKit Go.Shelf Km Kx Kc
set_option linter.unusedVariables false
def hm (f:Int):Mg:=⟨5,f,0,1,16,0,0,0,0,0,false,Pq.zero,Ks.Sl.nil,Ks.Sl.nil,Ks.Sl.nil⟩
def hown:Pq:=⟨0,1,0,0,0,0,0,0,0,0,Ks.Sl.nil,Ks.Sl.nil⟩
def hown1:Pq:=⟨1,1,0,0,0,0,0,0,0,0,Ks.Sl.nil,Ks.Sl.nil⟩
def hp1:Pp:=⟨1,16,1,hown1,0,Pq.zero,1,0⟩
def hp2:Pp:=⟨1,16,2,hown1,0,hown1,5,0⟩
theorem zo5:Tryz.prog.built 34 [(1,.int .i64 1)]=some hown.cells.toArray:=by kernel_rfl
theorem zq5:Tryz.prog.built 37 [(0,.int .i64 5),(3,.int .i64 1),(4,.int .i64 16)]=some (hm 0).cells.toArray:=by kernel_rfl
theorem zq4:Tryz.prog.built 37 [(0,.int .i64 5),(1,.int .i64 2),(3,.int .i64 1),(4,.int .i64 16)]=some (hm 2).cells.toArray:=by kernel_rfl
theorem hstep1:ppro 1 (start 1 16 hown) (hm 0)=hp1:=rfl
theorem hstep2:ppro 1 hp1 (hm 2)=hp2:=rfl
set_option maxRecDepth 100000 in
set_option maxHeartbeats 2000000 in
theorem zqn (w:World):Calls Tryz.prog 15 #[] w fun e w'=>e = .returned (.bool true)∧Below w.heap.size w w':=by
 have HB:=Lib.hid (Bxs.start w)
 go_enter Tryz.func15,Tryz.ntmps15
 go_wp2_with (go_at_call 16;fail)
 refine (zl7 _).mono ?_
 rintro e w1 ⟨A,rfl,hb_,-⟩
 replace HB:=Lib.hid (HB.out.call hb_)
 clear hb_
 have hF:Fc (zc8 A 50 1000 20 40 5)=1:=rfl
 have hM3:Om.most 1 3=true:=by decide
 have hM9:Om.most 1 9=false:=by decide
 have H0:Hid (∀W,Calls Tryz.prog 18 #[.int .i64 1,.int .i64 16,.agg hown.cells.toArray] W fun en w'=>en = .returned (.agg (start 1 16 hown).cells.toArray)∧Below W.heap.size W w'):=Lib.hid (fun W=>ziz 1 16 hown W)
 have H1:Hid (∀W,Calls Tryz.prog 19 #[.agg (start 1 16 hown).cells.toArray,.agg (cf (zc8 A 50 1000 20 40 5)).toArray,.agg (hm 0).cells.toArray] W fun e w'=>e = .returned (.agg hp1.cells.toArray)∧Below W.heap.size W w'):=Lib.hid (fun W=>by have:=ze7 (start 1 16 hown) (zc8 A 50 1000 20 40 5) (hm 0) W ⟨by decide,by decide⟩;rwa [hF,hstep1] at this)
 have H2:Hid (∀W,Calls Tryz.prog 19 #[.agg hp1.cells.toArray,.agg (cf (zc8 A 50 1000 20 40 5)).toArray,.agg (hm 2).cells.toArray] W fun e w'=>e = .returned (.agg hp2.cells.toArray)∧Below W.heap.size W w'):=Lib.hid (fun W=>by have:=ze7 hp1 (zc8 A 50 1000 20 40 5) (hm 2) W ⟨by decide,by decide⟩;rwa [hF,hstep2] at this)
 have H3:Hid (∀W,Calls Tryz.prog 42 #[.agg (cf (zc8 A 50 1000 20 40 5)).toArray,.int .u64 3] W fun e w'=>e = .returned (.bool true)∧Below W.heap.size W w'):=Lib.hid (fun W=>by have:=zhu (zc8 A 50 1000 20 40 5) 3 W (by decide);rwa [hF,hM3] at this)
 have H4:Hid (∀W,Calls Tryz.prog 42 #[.agg (cf (zc8 A 50 1000 20 40 5)).toArray,.int .u64 9] W fun e w'=>e = .returned (.bool false)∧Below W.heap.size W w'):=Lib.hid (fun W=>by have:=zhu (zc8 A 50 1000 20 40 5) 9 W (by decide);rwa [hF,hM9] at this)
 clear hF hM3 hM9
 go_wp2_with (first|((with_reducible refine Kx.zbk ?_);refine Km.wpList_build rfl 34 _ rfl #[(1,.int .i64 1)] (by first|rfl|(go_simp;try rfl)) hown.cells.toArray (zo5) ?_;refine Kx.framed ?_ (by simp only [Act.put,List.setIfInBounds_toArray,List.set_cons_succ,List.set_cons_zero]<;>rfl))|(go_at_call 19;fail)|(go_at_call 18;refine Calls.mono (H0.out _) ?_;rintro e w_ ⟨rfl,hb_⟩;replace HB:=Lib.hid (HB.out.call hb_);clear hb_)|((with_reducible refine Kx.zbk ?_);refine Km.wpList_build rfl 37 _ rfl #[(0,.int .i64 5),(3,.int .i64 1),(4,.int .i64 16)] (by first|rfl|(go_simp;try rfl)) (hm 0).cells.toArray (zq5) ?_;refine Kx.framed ?_ (by simp only [Act.put,List.setIfInBounds_toArray,List.set_cons_succ,List.set_cons_zero]<;>rfl))|(first|((with_reducible refine zah HB ?_);clear HB;intro w_ HB)|((with_reducible refine zae (d:=some 1) ?_);(first|refine boxa HB rfl ?_|refine boxt HB rfl rfl ?_|refine box1 HB rfl rfl ?_);clear HB;intro b1 w_ HB;refine Kx.fr ?_)|((with_reducible refine zaa (d:=some 1) ?_);(first|refine ala HB ?_|refine al1 HB ?_);clear HB;intro b1 w_ HB;refine Kx.fr ?_)|((with_reducible refine zae (d:=some 2) ?_);(first|refine boxa HB rfl ?_|refine boxt HB rfl rfl ?_|refine box1 HB rfl rfl ?_);clear HB;intro b2 w_ HB;refine Kx.fr ?_)|((with_reducible refine zaa (d:=some 2) ?_);(first|refine ala HB ?_|refine al1 HB ?_);clear HB;intro b2 w_ HB;refine Kx.fr ?_)|((with_reducible refine zae ?_);(first|refine boxa HB rfl ?_|refine boxt HB rfl rfl ?_|refine box1 HB rfl rfl ?_);clear HB;intro b_ w_ HB;refine Kx.fr ?_)|((with_reducible refine zaa ?_);(first|refine ala HB ?_|refine al1 HB ?_);clear HB;intro b_ w_ HB;refine Kx.fr ?_)|((with_reducible refine zab ?_);first|refine Kx.l1 HB rfl rfl ?_|refine Kx.la HB rfl ?_)|((with_reducible refine zac ?_);first|refine l1g HB rfl rfl rfl ?_|refine Kx.lag HB rfl rfl ?_)|((with_reducible refine zad ?_);(first|refine stwa HB rfl rfl ?_|refine sta HB rfl rfl ?_|refine Kx.stc HB rfl rfl ?_|refine Kx.stt HB rfl rfl rfl ?_|refine Kx.st1 HB rfl rfl rfl ?_);clear HB;intro w_ HB)))
 refine Calls.mono (H1.out _) ?_
 rintro e w_ ⟨rfl,hb_⟩
 replace HB:=Lib.hid (HB.out.call hb_)
 clear hb_
 go_wp2_with (first|(go_at_call 19;fail)|((with_reducible refine Kx.zbk ?_);refine Km.wpList_build rfl 37 _ rfl #[(0,.int .i64 5),(1,.int .i64 2),(3,.int .i64 1),(4,.int .i64 16)] (by first|rfl|(go_simp;try rfl)) (hm 2).cells.toArray (zq4) ?_;refine Kx.framed ?_ (by simp only [Act.put,List.setIfInBounds_toArray,List.set_cons_succ,List.set_cons_zero]<;>rfl))|(first|((with_reducible refine zah HB ?_);clear HB;intro w_ HB)|((with_reducible refine zae (d:=some 1) ?_);(first|refine boxa HB rfl ?_|refine boxt HB rfl rfl ?_|refine box1 HB rfl rfl ?_);clear HB;intro b1 w_ HB;refine Kx.fr ?_)|((with_reducible refine zaa (d:=some 1) ?_);(first|refine ala HB ?_|refine al1 HB ?_);clear HB;intro b1 w_ HB;refine Kx.fr ?_)|((with_reducible refine zae (d:=some 2) ?_);(first|refine boxa HB rfl ?_|refine boxt HB rfl rfl ?_|refine box1 HB rfl rfl ?_);clear HB;intro b2 w_ HB;refine Kx.fr ?_)|((with_reducible refine zaa (d:=some 2) ?_);(first|refine ala HB ?_|refine al1 HB ?_);clear HB;intro b2 w_ HB;refine Kx.fr ?_)|((with_reducible refine zae ?_);(first|refine boxa HB rfl ?_|refine boxt HB rfl rfl ?_|refine box1 HB rfl rfl ?_);clear HB;intro b_ w_ HB;refine Kx.fr ?_)|((with_reducible refine zaa ?_);(first|refine ala HB ?_|refine al1 HB ?_);clear HB;intro b_ w_ HB;refine Kx.fr ?_)|((with_reducible refine zab ?_);first|refine Kx.l1 HB rfl rfl ?_|refine Kx.la HB rfl ?_)|((with_reducible refine zac ?_);first|refine l1g HB rfl rfl rfl ?_|refine Kx.lag HB rfl rfl ?_)|((with_reducible refine zad ?_);(first|refine stwa HB rfl rfl ?_|refine sta HB rfl rfl ?_|refine Kx.stc HB rfl rfl ?_|refine Kx.stt HB rfl rfl rfl ?_|refine Kx.st1 HB rfl rfl rfl ?_);clear HB;intro w_ HB)))
 refine Calls.mono (H2.out _) ?_
 rintro e w_ ⟨rfl,hb_⟩
 replace HB:=Lib.hid (HB.out.call hb_)
 clear hb_
 go_wp2_with (first|(go_at_call 42;with_reducible refine zav #[_,.int .u64 3] ?_;refine Calls.mono (H3.out _) ?_;rintro e w_ ⟨rfl,hb_⟩;replace HB:=Lib.hid (HB.out.call hb_);clear hb_)|(go_at_call 42;with_reducible refine zav #[_,.int .u64 9] ?_;refine Calls.mono (H4.out _) ?_;rintro e w_ ⟨rfl,hb_⟩;replace HB:=Lib.hid (HB.out.call hb_);clear hb_)|((with_reducible refine zac ?_);(refine Kx.zb4 HB _ _ rfl _ rfl _ _ (Tryz.isAgg24 _) (Tryz.sizeOf24 _) _ (by first|exact Kx.whole (by rfl)|(simp<;>rfl)) (by rfl) rfl (Kx.framed ?_ (by simp only [Act.put,List.setIfInBounds_toArray,List.set_cons_succ,List.set_cons_zero]<;>rfl))))|(first|((with_reducible refine zah HB ?_);clear HB;intro w_ HB)|((with_reducible refine zae (d:=some 3) ?_);(first|refine boxa HB rfl ?_|refine boxt HB rfl rfl ?_|refine box1 HB rfl rfl ?_);clear HB;intro b3 w_ HB;refine Kx.fr ?_)|((with_reducible refine zaa (d:=some 3) ?_);(first|refine ala HB ?_|refine al1 HB ?_);clear HB;intro b3 w_ HB;refine Kx.fr ?_)|((with_reducible refine zae ?_);(first|refine boxa HB rfl ?_|refine boxt HB rfl rfl ?_|refine box1 HB rfl rfl ?_);clear HB;intro b_ w_ HB;refine Kx.fr ?_)|((with_reducible refine zaa ?_);(first|refine ala HB ?_|refine al1 HB ?_);clear HB;intro b_ w_ HB;refine Kx.fr ?_)|((with_reducible refine zab ?_);first|refine Kx.l1 HB rfl rfl ?_|refine Kx.la HB rfl ?_)|((with_reducible refine zac ?_);first|refine l1g HB rfl rfl rfl ?_|refine Kx.lag HB rfl rfl ?_)|((with_reducible refine zad ?_);(first|refine stwa HB rfl rfl ?_|refine sta HB rfl rfl ?_|refine Kx.stc HB rfl rfl ?_|refine Kx.stt HB rfl rfl rfl ?_|refine Kx.st1 HB rfl rfl rfl ?_);clear HB;intro w_ HB)))
 go_ret
 exact ⟨rfl,HB.out.below⟩
end Go.Proofs.YtponpgcpmlcdpaaGreatDoor
