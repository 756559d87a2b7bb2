/- The law PlanGets walked. -/
import Derived.Test.YtdcdlnmgbgeeeaaDoorPk
import Derived.Test.YtdcdlnmgbgeeeaaDoorQw
import Derived.Test.YtdcdlnmgbgeeeaaDoorQu
namespace Go.Proofs.YtdcdlnmgbgeeeaaDoor
open Go.RowKit Go.Shelf

set_option maxRecDepth 100000 in
set_option maxHeartbeats 8000000 in
theorem gets_walk (a : Option Addr) (len cap : Nat) (z : List Int) (w : World) (hr : RowOf .u8 w a len cap z) (ht : Tab w) :
    Calls Tryd.prog 4 #[.slice a len cap] w fun e w' => e = .returned (.bool true) ∧ Below w.heap.size w w' := by
  obtain ⟨bs, hbl, hlc, hcm, hbr, hbw⟩ := row_rd hr
  have hbb := Lib.hid (wf_u8 hbw)
  have HBR := Lib.hid hbr
  have HBL := Lib.hid hbl
  have HT := Lib.hid ht
  have HH := Lib.hid (head_any _ ht)
  clear hr hbr hbw hbl ht
  go_enter Tryd.func4, Tryd.ntmps4
  go_wp2_with (go_at_call 10; fail)
  refine HH.out.mono ?_
  rintro e w2 ⟨rfl, hb2⟩
  have hw2 := Lib.hid hb2
  have HG := Lib.hid (Get_any a len cap w.heap.size bs w2 (HBR.out.below hw2.out) HBL.out hlc hcm hw2.out.size hbb.out (HT.out.below hw2.out (Nat.le_refl _)))
  clear hb2 HH
  go_wp2_with (go_at_call 15; fail)
  refine HG.out.mono ?_
  rintro e w3 ⟨E1, p1, q1, E2, p2, q2, rfl, hpa3, hb3⟩
  have hw3 := Lib.hid (hw2.out.trans (hb3.mono hw2.out.size))
  have hbx4 := Lib.hid (Bx.new w3 (Pm.get bs).1 E1 p1 q1 E2 p2 q2 26)
  have hw4 := Lib.hid (hw3.out.alloc hw3.out.size (.cells (pvs (Pm.get bs).1 E1 p1 q1 E2 p2 q2).toArray 26))
  have hk4 : Hid (Below w3.heap.size w3 (w3.alloc (.cells (pvs (Pm.get bs).1 E1 p1 q1 E2 p2 q2).toArray 26))) := (Below.refl _ _).alloc (Nat.le_refl _) _
  have hz4 : Hid ((w3.alloc (.cells (pvs (Pm.get bs).1 E1 p1 q1 E2 p2 q2).toArray 26)).heap.size = w3.heap.size + 1) := World.size_alloc ..
  have HPA4 := Lib.hid (hpa3.below hk4.out (Nat.le_refl _))
  have HR := Lib.hid (RGet_any a len cap w.heap.size bs _ (HBR.out.below hw4.out) HBL.out hlc hcm hw4.out.size hbb.out)
  have hone := Lib.hid (pvs_one (Pm.get bs).1 E1 p1 q1 E2 p2 q2)
  have hin : Hid ((Tryd.prog.info? 26).map (·.size) = some (pvs (Pm.get bs).1 E1 p1 q1 E2 p2 q2).toArray.size) := info_plan
  have hsz : Hid (12 = (pvs (Pm.get bs).1 E1 p1 q1 E2 p2 q2).toArray.size) := rfl
  rw [pv_eq]
  clear hpa3 hb3 HG hw2
  obtain ⟨R1, hR1⟩ : ∃ R1, R1 = pvs (Pm.get bs).1 E1 p1 q1 E2 p2 q2 := ⟨_, rfl⟩
  have HR1 := Lib.hid hR1
  rw [← hR1] at hbx4 hw4 hk4 hz4 HPA4 HR hone hin hsz ⊢
  clear hR1
  go_wp2_with (first | (refine wpList_store_new rfl 26 _ _ rfl _ R1.toArray rfl rfl hin.out hsz.out hone.out ?_) | (go_at_call 16; fail))
  refine HR.out.mono ?_
  rintro e w5 ⟨F1, s1, t1, F2, s2, t2, rfl, hpa5, hb5⟩
  have hw5 := Lib.hid (hw4.out.trans (hb5.mono hw4.out.size))
  have hb5' : Below (w3.heap.size + 1) (w3.alloc (.cells R1.toArray 26)) w5 := hb5.mono (by rw [hz4.out]; exact Nat.le_refl _)
  have hz5 : w3.heap.size + 1 ≤ w5.heap.size := by have := hb5.size; rw [hz4.out] at this; exact this
  have hw6 := Lib.hid (hw5.out.alloc hw5.out.size (.cells (pvs (Pm.get bs).1 F1 s1 t1 F2 s2 t2).toArray 26))
  have hk6 : Below w5.heap.size w5 (w5.alloc (.cells (pvs (Pm.get bs).1 F1 s1 t1 F2 s2 t2).toArray 26)) := (Below.refl _ _).alloc (Nat.le_refl _) _
  have hs6 := hk6.size
  have hx4 := Lib.hid ((hbx4.out.below hb5' (Nat.lt_succ_self _)).below hk6 (by omega))
  have hx6 := Lib.hid (Bx.new w5 (Pm.get bs).1 F1 s1 t1 F2 s2 t2 26)
  have hpa4' := (HPA4.out.below hb5' (by omega)).below hk6 (by omega)
  have hpa6 := hpa5.below hk6 (Nat.le_refl _)
  have HS := Lib.hid (RSame_any (Pm.get bs).1 (Pm.get bs).1 E1 p1 q1 E2 p2 q2 w3.heap.size F1 s1 t1 F2 s2 t2 w5.heap.size _ hpa4' hpa6 (by omega) hs6)
  rw [show Pm.same (Pm.get bs).1 (Pm.get bs).1 = true from Pm.ask_yes rfl, pv_eq, pv_eq, ← HR1.out] at HS
  have hr4 : Hid ((w5.alloc (.cells (pvs (Pm.get bs).1 F1 s1 t1 F2 s2 t2).toArray 26)).rangeAt w3.heap.size 0 R1) := by rw [HR1.out]; exact hx4.out
  have hr6 : Hid ((w5.alloc (.cells (pvs (Pm.get bs).1 F1 s1 t1 F2 s2 t2).toArray 26)).rangeAt w5.heap.size 0 (pvs (Pm.get bs).1 F1 s1 t1 F2 s2 t2)) := hx6.out
  have hone2 := Lib.hid (pvs_one (Pm.get bs).1 F1 s1 t1 F2 s2 t2)
  have hin2 : Hid ((Tryd.prog.info? 26).map (·.size) = some (pvs (Pm.get bs).1 F1 s1 t1 F2 s2 t2).toArray.size) := info_plan
  have hin1 : Hid ((Tryd.prog.info? 26).map (·.size) = some R1.length) := hin.out
  have hin3 : Hid ((Tryd.prog.info? 26).map (·.size) = some (pvs (Pm.get bs).1 F1 s1 t1 F2 s2 t2).length) := info_plan
  have hsz2 : Hid (12 = (pvs (Pm.get bs).1 F1 s1 t1 F2 s2 t2).toArray.size) := rfl
  rw [pv_eq]
  have hee : ((Pm.get bs).2 == (Pm.get bs).2) = true := by rw [beq_self_eq_true]
  clear hb5 hb5' HR hpa5 hpa4' hpa6 hk6 hx4 hx6 hs6 HR1 HPA4 hbx4 hw4 hk4 hz4
  generalize (Pm.get bs).2 = er at *
  generalize pvs (Pm.get bs).1 F1 s1 t1 F2 s2 t2 = R2 at *
  go_wp2_with (first | (refine wpList_store_new rfl 26 _ _ rfl _ R2.toArray rfl rfl hin2.out hsz2.out hone2.out ?_) | (refine wpList_load_on 26 _ rfl w3.heap.size 0 rfl R1 _ hr4.out Tryd.underlying26 rfl hin1.out (by kernel_rfl) ?_) | (refine wpList_load_on 26 _ rfl w5.heap.size 0 rfl R2 _ hr6.out Tryd.underlying26 rfl hin3.out (by kernel_rfl) ?_) | (go_at_call 17; fail))
  refine HS.out.mono ?_
  rintro e w7 ⟨rfl, hb7⟩
  have hw7 := hw6.out.trans (hb7.mono hw6.out.size)
  go_wp2
  go_ret
  exact ⟨rfl, hw7⟩
end Go.Proofs.YtdcdlnmgbgeeeaaDoor
