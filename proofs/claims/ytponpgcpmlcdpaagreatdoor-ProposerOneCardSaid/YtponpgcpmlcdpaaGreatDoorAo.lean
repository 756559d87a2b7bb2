import Derived.ProofKit
import Derived.OpenShut
import Derived.ChangeOld
import Derived.Deep.DeepHandedRow
import Derived.Deep.Fields
import Derived.Lib.LaidTab
import Derived.Lib.LaidU8
import Derived.Test.YtponpgcpmlcdpaaGreatDoorRows
import Derived.Test.YtponpgcpmlcdpaaGreatDoorBMa
namespace Go.Proofs.YtponpgcpmlcdpaaGreatDoor
open Go.ChangeShapes Go.WideShapes Go.ChangeAt Go.RowKit
theorem spans_at {H : Type} {enc : TypeId × Value → H} {w : World} {base : Nat} {sp : Nat → Bool} {held : Bool} {fuel : Nat} {cs : List Value} {p : List MemPlace}
  (h:DataW.trod enc Tryz.prog w base sp held fuel 172 cs=some (Rows.laid_locum_plan_spans,p)):∀k,k < 20→cs[k]? = some (.int .i64 (spans.getD k 0)):=by
 have c64:Tryz.prog.cellsOf 171=2:=by kernel_rfl
 have c2:Tryz.prog.cellsOf 2=1:=by kernel_rfl
 have el:∀i,i < 10→(cs.drop (i * 2)).take 2=[.int .i64 (Pm.lows.getD i 0),.int .i64 (Pm.tops.getD i 0)]:=by
  intro i hi
  unfold Rows.laid_locum_plan_spans at h
  obtain ⟨f',d,q,hd,ht⟩:=Lib.array_elem Tryz.underlying172 h i hi
  rw [c64] at ht
  have hd':d = .agg ([Pm.lows.getD i 0,Pm.tops.getD i 0].map fun z => .lit (.int .i64 z)):=by
   match i,hi with
   |0,_=>exact (Option.some.inj hd).symm
   |1,_=>exact (Option.some.inj hd).symm
   |2,_=>exact (Option.some.inj hd).symm
   |3,_=>exact (Option.some.inj hd).symm
   |4,_=>exact (Option.some.inj hd).symm
   |5,_=>exact (Option.some.inj hd).symm
   |6,_=>exact (Option.some.inj hd).symm
   |7,_=>exact (Option.some.inj hd).symm
   |8,_=>exact (Option.some.inj hd).symm
   |9,_=>exact (Option.some.inj hd).symm
  subst hd'
  exact Lib.ints_of_struct Tryz.underlying171 (fun j f hj=>by
   match j,hj with
   |0,hj=>cases hj;exact ⟨Tryz.underlying2,rfl,c2⟩
   |1,hj=>cases hj;exact ⟨Tryz.underlying2,rfl,c2⟩
   |j+2,hj=>exact absurd (Array.getElem?_eq_some_iff.1 hj).1 (by simp)) c64 ht
 have two:∀i,i < 10→cs[i * 2]? = some (.int .i64 (Pm.lows.getD i 0))∧cs[i * 2+1]? = some (.int .i64 (Pm.tops.getD i 0)):=fun i hi=>by
  have h1:=congrArg (·[0]?) (el i hi)
  have h2:=congrArg (·[1]?) (el i hi)
  simp [List.getElem?_drop] at h1 h2
  exact ⟨by simpa using h1,by simpa using h2⟩
 intro k hk
 match k,hk with
 |0,_=>exact (two 0 (by omega)).1
 |1,_=>exact (two 0 (by omega)).2
 |2,_=>exact (two 1 (by omega)).1
 |3,_=>exact (two 1 (by omega)).2
 |4,_=>exact (two 2 (by omega)).1
 |5,_=>exact (two 2 (by omega)).2
 |6,_=>exact (two 3 (by omega)).1
 |7,_=>exact (two 3 (by omega)).2
 |8,_=>exact (two 4 (by omega)).1
 |9,_=>exact (two 4 (by omega)).2
 |10,_=>exact (two 5 (by omega)).1
 |11,_=>exact (two 5 (by omega)).2
 |12,_=>exact (two 6 (by omega)).1
 |13,_=>exact (two 6 (by omega)).2
 |14,_=>exact (two 7 (by omega)).1
 |15,_=>exact (two 7 (by omega)).2
 |16,_=>exact (two 8 (by omega)).1
 |17,_=>exact (two 8 (by omega)).2
 |18,_=>exact (two 9 (by omega)).1
 |19,_=>exact (two 9 (by omega)).2
 |k+20,hk=>exact absurd hk (by omega)
theorem gNum : Tryz.prog.globalNamed "locum/plan.spans" = some 0 := by kernel_rfl
theorem gType:(Tryz.prog.globals[0]?).map (·.type)=some 172:=by kernel_rfl
theorem hNum : Tryz.prog.globalNamed "locum/crc.halves" = some 1 := by kernel_rfl
theorem hType:(Tryz.prog.globals[1]?).map (·.type)=some 199:=by kernel_rfl
theorem hCells:Tryz.prog.cellsOf 199=16:=by kernel_rfl
theorem hCell:Tryz.prog.cellsOf 187=1:=by kernel_rfl
theorem zmd {W : World} (h : laidMet Tryz.prog [("locum/crc.halves", Rows.laid_locum_crc_halves), ("locum/plan.spans", Rows.laid_locum_plan_spans)] W) : Tab W := by
 obtain ⟨ps,⟨_,_,_,_,_,_,_,_,_,_,hr,_⟩,_⟩:=h
 obtain ⟨g',t',cs,fuel,p,q,hg',ht',hvar,hd,_,_⟩:=hr
 obtain rfl:=Option.some.inj (gNum.symm.trans hg')
 obtain rfl:=Option.some.inj (gType.symm.trans ht')
 intro k hk
 have h1:=spans_at hd k hk
 have:=World.var?_cell gNum hvar k
 rw [this]
 simpa using h1
theorem zll {W : World} (h : laidMet Tryz.prog [("locum/crc.halves", Rows.laid_locum_crc_halves), ("locum/plan.spans", Rows.laid_locum_plan_spans)] W) : HTab W :=
 (Lib.tabIs_of_head (zs := Cm.tab) (rest := [("locum/plan.spans", Rows.laid_locum_plan_spans)]) hNum hType Tryz.underlying199 Tryz.underlying187 hCell hCells h).cell hNum
def Tbs (W:World):Prop:=Tab W∧HTab W
theorem tabs_of {W : World} (h : laidMet Tryz.prog [("locum/crc.halves", Rows.laid_locum_crc_halves), ("locum/plan.spans", Rows.laid_locum_plan_spans)] W) : Tbs W := ⟨zmd h, zll h⟩
end Go.Proofs.YtponpgcpmlcdpaaGreatDoor
