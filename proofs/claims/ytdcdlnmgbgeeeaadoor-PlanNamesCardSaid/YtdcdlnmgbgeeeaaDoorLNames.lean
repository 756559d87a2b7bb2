/- The law PlanNames walked. -/
import Derived.Test.YtdcdlnmgbgeeeaaDoorPk
import Derived.Test.YtdcdlnmgbgeeeaaDoorQw
namespace Go.Proofs.YtdcdlnmgbgeeeaaDoor
open Go.RowKit Go.Shelf

set_option maxRecDepth 100000 in
set_option maxHeartbeats 8000000 in
theorem names_walk (x : Pm.Pl) (A : Option Addr) (n c : Nat) (A' : Option Addr) (n' c' : Nat) (y : Pm.Pl) (D : Option Addr) (m d : Nat) (D' : Option Addr) (m' d' : Nat) (t : Int) (w : World)
    (hp : PlAt w w.heap.size x A n c A' n' c') (hq : PlAt w w.heap.size y D m d D' m' d') (_wt : (Lit.int .i64 t).wf = true) (ht : Tab w) :
    Calls Tryd.prog 5 #[pv x A n c A' n' c', pv y D m d D' m' d', .int .i64 t] w fun e w' => e = .returned (.bool true) ∧ Below w.heap.size w w' := by
  have b0 := Bx.new w x A n c A' n' c' 26
  have hb0 : Below w.heap.size w (w.alloc (.cells (pvs x A n c A' n' c').toArray 26)) := (Below.refl _ w).alloc (Nat.le_refl _) _
  have hz1 : (w.alloc (.cells (pvs x A n c A' n' c').toArray 26)).heap.size = w.heap.size + 1 := World.size_alloc ..
  have b1 := Bx.new (w.alloc (.cells (pvs x A n c A' n' c').toArray 26)) y D m d D' m' d' 26
  have b0' : Bx ((w.alloc (.cells (pvs x A n c A' n' c').toArray 26)).alloc (.cells (pvs y D m d D' m' d').toArray 26)) w.heap.size x A n c A' n' c' := b0.below (B := w.heap.size + 1) ((Below.refl _ _).alloc (by omega) _) (Nat.lt_succ_self _)
  have HB1 := Lib.hid (hb0.alloc (o := .cells (pvs y D m d D' m' d').toArray 26) (by omega))
  rw [hz1] at b1
  have HZ2 : Hid (((w.alloc (.cells (pvs x A n c A' n' c').toArray 26)).alloc (.cells (pvs y D m d D' m' d').toArray 26)).heap.size = w.heap.size + 2) := by
    show _ = _
    rw [World.size_alloc, hz1]
  have HRX : Hid (∀ (W : World), Below (w.heap.size + 2) ((w.alloc (.cells (pvs x A n c A' n' c').toArray 26)).alloc (.cells (pvs y D m d D' m' d').toArray 26)) W → W.rangeAt w.heap.size 0 (pvs x A n c A' n' c')) := fun W h => b0'.below h (by omega)
  have HRY : Hid (∀ (W : World), Below (w.heap.size + 2) ((w.alloc (.cells (pvs x A n c A' n' c').toArray 26)).alloc (.cells (pvs y D m d D' m' d').toArray 26)) W → W.rangeAt (w.heap.size + 1) 0 (pvs y D m d D' m' d')) := fun W h => b1.below h (by omega)
  have HI1 : Hid ((Tryd.prog.info? 26).map (·.size) = some (pvs x A n c A' n' c').length) := info_plan
  have HI2 : Hid ((Tryd.prog.info? 26).map (·.size) = some (pvs y D m d D' m' d').length) := info_plan
  have HH := Lib.hid (head_any _ ((ht.alloc (.cells (pvs x A n c A' n' c').toArray 26)).alloc (.cells (pvs y D m d D' m' d').toArray 26)))
  have HP := Lib.hid hp
  have HQ := Lib.hid hq
  have HT := Lib.hid ht
  clear b0 b0' b1 hb0 hz1 hp hq ht
  have HN := Lib.hid (fun W => Names_any x A n c A' n' c' t W)
  have HNR := Lib.hid (fun W => RNames_any x A n c A' n' c' t W)
  have HS := Lib.hid (fun W (h : PlAt W w.heap.size x A n c A' n' c') (h' : PlAt W w.heap.size y D m d D' m' d') (h2 : w.heap.size ≤ W.heap.size) => Same_p_any x y A n c A' n' c' w.heap.size D m d D' m' d' w.heap.size W h h' h2 h2)
  have HSR := Lib.hid (fun W (h : PlAt W w.heap.size x A n c A' n' c') (h' : PlAt W w.heap.size y D m d D' m' d') (h2 : w.heap.size ≤ W.heap.size) => RSame_any x y A n c A' n' c' w.heap.size D m d D' m' d' w.heap.size W h h' h2 h2)
  have HSS := Lib.hid (fun W (h : PlAt W w.heap.size x A n c A' n' c') (h2 : w.heap.size ≤ W.heap.size) => Same_p_any x x A n c A' n' c' w.heap.size A n c A' n' c' w.heap.size W h h h2 h2)
  rw [show Pm.same x x = true from Pm.ask_yes rfl] at HSS
  rw [pv_eq] at HN HNR
  rw [pv_eq] at HSS
  rw [pv_eq, pv_eq] at HS HSR
  rw [pv_eq, pv_eq]
  generalize pvs x A n c A' n' c' = L at *
  generalize pvs y D m d D' m' d' = M at *
  generalize x.names t = nb at *
  generalize Pm.same x y = sb at *
  have e1 : (nb == nb) = true := by rw [beq_self_eq_true]
  have e2 : (sb == sb) = true := by rw [beq_self_eq_true]
  go_enter Tryd.func5, Tryd.ntmps5
  go_wp2_with (go_at_call 10; fail)
  refine HH.out.mono ?_
  rintro e w2 ⟨rfl, hb2⟩
  have hC2 : Hid (Below (w.heap.size + 2) ((w.alloc (.cells L.toArray 26)).alloc (.cells M.toArray 26)) w2) := hb2.mono (by rw [HZ2.out]; exact Nat.le_refl _)
  have hz2 : w.heap.size + 2 ≤ w2.heap.size := by have := hC2.out.size; rw [HZ2.out] at this; exact this
  have hw2 := Lib.hid (HB1.out.trans (hC2.out.mono (by omega)))
  have G := Lib.hid (fun (W : World) (h : Below w2.heap.size w2 W) => hC2.out.trans (h.mono hz2))
  have GP := Lib.hid (fun (W : World) (h : Below w2.heap.size w2 W) => HP.out.below (hw2.out.trans (h.mono (by omega))) (Nat.le_refl _))
  have GQ := Lib.hid (fun (W : World) (h : Below w2.heap.size w2 W) => HQ.out.below (hw2.out.trans (h.mono (by omega))) (Nat.le_refl _))
  clear hb2 HH HP HQ HT
  go_wp2_with fail
  refine region_C (fun W => Below w2.heap.size w2 W) (by kernel_rfl) ?_
  have hC : Below w2.heap.size w2 w2.drew := (Below.refl _ _).drew
  refine anyC_take (i := 0) (v := ?v0_1) (a' := ?a0_1) rfl (by kernel_rfl) (by kernel_rfl) (by kernel_rfl) (fun _ _ _ h => h) hC ?w0_1 ?y0_1 ?f0_1 ?r0_1
  case w0_1 => kernel_rfl
  case y0_1 => (intro w hC; go_simp; try with_reducible rfl)
  case f0_1 => (go_simp; try with_reducible rfl)
  refine anyC_take (i := 1) (v := ?v1_2) (a' := ?a1_2) rfl (by kernel_rfl) (by kernel_rfl) (by kernel_rfl) (fun _ _ _ h => h) hC ?w1_2 ?y1_2 ?f1_2 ?r1_2
  case w1_2 => kernel_rfl
  case y1_2 => (intro w hC; go_simp; try with_reducible rfl)
  case f1_2 => (go_simp; try with_reducible rfl)
  refine anyC_take (i := 3) (v := ?v3_3) (a' := ?a3_3) rfl (by kernel_rfl) (by kernel_rfl) (by kernel_rfl) (fun _ _ _ h => h) hC ?w3_3 ?y3_3 ?f3_3 ?r3_3
  case w3_3 => kernel_rfl
  case y3_3 => (intro w hC; go_simp; try with_reducible rfl)
  case f3_3 => (go_simp; try with_reducible rfl)
  refine anyC_take (i := 6) (v := ?v6_4) (a' := ?a6_4) rfl (by kernel_rfl) (by kernel_rfl) (by kernel_rfl) (fun _ _ _ h => h) hC ?w6_4 ?y6_4 ?f6_4 ?r6_4
  case w6_4 => kernel_rfl
  case y6_4 => (intro w hC; go_simp; try with_reducible rfl)
  case f6_4 => (go_simp; try with_reducible rfl)
  refine anyC_take (i := 2) (v := ?v2_5) (a' := ?a2_5) rfl (by kernel_rfl) (by kernel_rfl) (by kernel_rfl) (fun _ _ _ h => h) hC ?w2_5 ?y2_5 ?f2_5 ?r2_5
  case w2_5 => kernel_rfl
  case y2_5 => (intro W hW; exact by refine exec_load 26 (.tmp 3) ?_ w.heap.size ?_ L _ (HRX.out _ (G.out _ hW)) Tryd.underlying26 rfl HI1.out <;> rfl)
  case f2_5 => (go_simp; try with_reducible rfl)
  refine anyC_take (i := 5) (v := ?v5_6) (a' := ?a5_6) rfl (by kernel_rfl) (by kernel_rfl) (by kernel_rfl) (fun _ _ _ h => h) hC ?w5_6 ?y5_6 ?f5_6 ?r5_6
  case w5_6 => kernel_rfl
  case y5_6 => (intro W hW; exact by refine exec_load 26 (.tmp 3) ?_ w.heap.size ?_ L _ (HRX.out _ (G.out _ hW)) Tryd.underlying26 rfl HI1.out <;> rfl)
  case f5_6 => (go_simp; try with_reducible rfl)
  refine anyC_one (i := 4) rfl (by kernel_rfl) (by kernel_rfl) (fun K hK => ?_)
  go_simp
  refine (HN.out _).mono ?_
  rintro e w3 ⟨rfl, hb3⟩
  have h3 : Below w2.heap.size w2 w3 := hC.trans (hb3.mono (Nat.le_refl _))
  refine hK _ _ ⟨h3, ?_⟩
  clear hK K hb3 hC
  refine anyC_one (i := 7) rfl (by kernel_rfl) (by kernel_rfl) (fun K hK => ?_)
  go_simp
  refine (HNR.out _).mono ?_
  rintro e w4 ⟨rfl, hb4⟩
  have h4 : Below w2.heap.size w2 w4 := h3.trans (hb4.mono h3.size)
  refine hK _ _ ⟨h4, ?_⟩
  clear hK K hb4 h3
  refine anyC_take (i := 8) (v := ?v8_7) (a' := ?a8_7) rfl (by kernel_rfl) (by kernel_rfl) (by kernel_rfl) (fun _ _ _ h => h) h4 ?w8_7 ?y8_7 ?f8_7 ?r8_7
  case w8_7 => kernel_rfl
  case y8_7 => (intro w hC; go_simp; try with_reducible rfl)
  case f8_7 => (go_simp; try with_reducible rfl)
  refine anyC_take (i := 9) (v := ?v9_8) (a' := ?a9_8) rfl (by kernel_rfl) (by kernel_rfl) (by kernel_rfl) (fun _ _ _ h => h) h4 ?w9_8 ?y9_8 ?f9_8 ?r9_8
  case w9_8 => kernel_rfl
  case y9_8 => (intro w hC; go_simp; try with_reducible rfl)
  case f9_8 => (go_simp; try with_reducible rfl)
  refine anyC_take (i := 10) (v := ?v10_9) (a' := ?a10_9) rfl (by kernel_rfl) (by kernel_rfl) (by kernel_rfl) (fun _ _ _ h => h) h4 ?w10_9 ?y10_9 ?f10_9 ?r10_9
  case w10_9 => kernel_rfl
  case y10_9 => (intro w hC; go_simp; try with_reducible rfl)
  case f10_9 => (go_simp; try with_reducible rfl)
  refine anyC_take (i := 11) (v := ?v11_10) (a' := ?a11_10) rfl (by kernel_rfl) (by kernel_rfl) (by kernel_rfl) (fun _ _ _ h => h) h4 ?w11_10 ?y11_10 ?f11_10 ?r11_10
  case w11_10 => kernel_rfl
  case y11_10 => (intro W hW; exact by refine exec_load 26 (.tmp 3) ?_ w.heap.size ?_ L _ (HRX.out _ (G.out _ hW)) Tryd.underlying26 rfl HI1.out <;> rfl)
  case f11_10 => (go_simp; try with_reducible rfl)
  refine anyC_take (i := 12) (v := ?v12_11) (a' := ?a12_11) rfl (by kernel_rfl) (by kernel_rfl) (by kernel_rfl) (fun _ _ _ h => h) h4 ?w12_11 ?y12_11 ?f12_11 ?r12_11
  case w12_11 => kernel_rfl
  case y12_11 => (intro W hW; exact by refine exec_load 26 (.tmp 4) ?_ (w.heap.size + 1) ?_ M _ (HRY.out _ (G.out _ hW)) Tryd.underlying26 rfl HI2.out <;> rfl)
  case f12_11 => (go_simp; try with_reducible rfl)
  refine anyC_take (i := 14) (v := ?v14_12) (a' := ?a14_12) rfl (by kernel_rfl) (by kernel_rfl) (by kernel_rfl) (fun _ _ _ h => h) h4 ?w14_12 ?y14_12 ?f14_12 ?r14_12
  case w14_12 => kernel_rfl
  case y14_12 => (intro W hW; exact by refine exec_load 26 (.tmp 3) ?_ w.heap.size ?_ L _ (HRX.out _ (G.out _ hW)) Tryd.underlying26 rfl HI1.out <;> rfl)
  case f14_12 => (go_simp; try with_reducible rfl)
  refine anyC_take (i := 15) (v := ?v15_13) (a' := ?a15_13) rfl (by kernel_rfl) (by kernel_rfl) (by kernel_rfl) (fun _ _ _ h => h) h4 ?w15_13 ?y15_13 ?f15_13 ?r15_13
  case w15_13 => kernel_rfl
  case y15_13 => (intro W hW; exact by refine exec_load 26 (.tmp 4) ?_ (w.heap.size + 1) ?_ M _ (HRY.out _ (G.out _ hW)) Tryd.underlying26 rfl HI2.out <;> rfl)
  case f15_13 => (go_simp; try with_reducible rfl)
  refine anyC_one (i := 13) rfl (by kernel_rfl) (by kernel_rfl) (fun K hK => ?_)
  go_simp
  refine (HS.out w4 (GP.out _ h4) (GQ.out _ h4) (by have := h4.size; omega)).mono ?_
  rintro e w5 ⟨rfl, hb5⟩
  have h5 : Below w2.heap.size w2 w5 := h4.trans (hb5.mono h4.size)
  refine hK _ _ ⟨h5, ?_⟩
  clear hK K hb5 h4
  refine anyC_one (i := 16) rfl (by kernel_rfl) (by kernel_rfl) (fun K hK => ?_)
  go_simp
  refine (HSR.out w5 (GP.out _ h5) (GQ.out _ h5) (by have := h5.size; omega)).mono ?_
  rintro e w6 ⟨rfl, hb6⟩
  have h6 : Below w2.heap.size w2 w6 := h5.trans (hb6.mono h5.size)
  refine hK _ _ ⟨h6, ?_⟩
  clear hK K hb6 h5
  refine anyC_take (i := 17) (v := ?v17_14) (a' := ?a17_14) rfl (by kernel_rfl) (by kernel_rfl) (by kernel_rfl) (fun _ _ _ h => h) h6 ?w17_14 ?y17_14 ?f17_14 ?r17_14
  case w17_14 => kernel_rfl
  case y17_14 => (intro w hC; go_simp; try with_reducible rfl)
  case f17_14 => (go_simp; try with_reducible rfl)
  refine anyC_take (i := 18) (v := ?v18_15) (a' := ?a18_15) rfl (by kernel_rfl) (by kernel_rfl) (by kernel_rfl) (fun _ _ _ h => h) h6 ?w18_15 ?y18_15 ?f18_15 ?r18_15
  case w18_15 => kernel_rfl
  case y18_15 => (intro w hC; go_simp; try with_reducible rfl)
  case f18_15 => (go_simp; try with_reducible rfl)
  refine anyC_take (i := 19) (v := ?v19_16) (a' := ?a19_16) rfl (by kernel_rfl) (by kernel_rfl) (by kernel_rfl) (fun _ _ _ h => h) h6 ?w19_16 ?y19_16 ?f19_16 ?r19_16
  case w19_16 => kernel_rfl
  case y19_16 => (intro w hC; go_simp; try with_reducible rfl)
  case f19_16 => (go_simp; try with_reducible rfl)
  refine anyC_take (i := 20) (v := ?v20_17) (a' := ?a20_17) rfl (by kernel_rfl) (by kernel_rfl) (by kernel_rfl) (fun _ _ _ h => h) h6 ?w20_17 ?y20_17 ?f20_17 ?r20_17
  case w20_17 => kernel_rfl
  case y20_17 => (intro W hW; exact by refine exec_load 26 (.tmp 3) ?_ w.heap.size ?_ L _ (HRX.out _ (G.out _ hW)) Tryd.underlying26 rfl HI1.out <;> rfl)
  case f20_17 => (go_simp; try with_reducible rfl)
  refine anyC_take (i := 21) (v := ?v21_18) (a' := ?a21_18) rfl (by kernel_rfl) (by kernel_rfl) (by kernel_rfl) (fun _ _ _ h => h) h6 ?w21_18 ?y21_18 ?f21_18 ?r21_18
  case w21_18 => kernel_rfl
  case y21_18 => (intro W hW; exact by refine exec_load 26 (.tmp 3) ?_ w.heap.size ?_ L _ (HRX.out _ (G.out _ hW)) Tryd.underlying26 rfl HI1.out <;> rfl)
  case f21_18 => (go_simp; try with_reducible rfl)
  refine anyC_one (i := 22) rfl (by kernel_rfl) (by kernel_rfl) (fun K hK => ?_)
  go_simp
  refine (HSS.out w6 (GP.out _ h6) (by have := h6.size; omega)).mono ?_
  rintro e w7 ⟨rfl, hb7⟩
  have h7 : Below w2.heap.size w2 w7 := h6.trans (hb7.mono h6.size)
  refine hK _ _ ⟨h7, ?_⟩
  clear hK K hb7 h6
  refine anyC_take (i := 23) (v := ?v23_19) (a' := ?a23_19) rfl (by kernel_rfl) (by kernel_rfl) (by kernel_rfl) (fun _ _ _ h => h) h7 ?w23_19 ?y23_19 ?f23_19 ?r23_19
  case w23_19 => kernel_rfl
  case y23_19 => (intro w hC; go_simp; try with_reducible rfl)
  case f23_19 => (go_simp; try with_reducible rfl)
  refine anyC_take (i := 24) (v := ?v24_20) (a' := ?a24_20) rfl (by kernel_rfl) (by kernel_rfl) (by kernel_rfl) (fun _ _ _ h => h) h7 ?w24_20 ?y24_20 ?f24_20 ?r24_20
  case w24_20 => kernel_rfl
  case y24_20 => (intro w hC; go_simp; try with_reducible rfl)
  case f24_20 => (go_simp; try with_reducible rfl)
  refine anyC_done (by kernel_rfl) ?_
  go_wp2
  go_ret
  exact ⟨rfl, hw2.out.trans (h7.mono (by omega))⟩
end Go.Proofs.YtdcdlnmgbgeeeaaDoor
