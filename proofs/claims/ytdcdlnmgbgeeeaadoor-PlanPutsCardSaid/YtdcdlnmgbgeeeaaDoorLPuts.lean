/- The law PlanPuts walked. -/
import Derived.Test.YtdcdlnmgbgeeeaaDoorPk
import Derived.Test.YtdcdlnmgbgeeeaaDoorQt
namespace Go.Proofs.YtdcdlnmgbgeeeaaDoor
open Go.RowKit Go.Shelf

set_option maxRecDepth 100000 in
set_option maxHeartbeats 4000000 in
theorem puts_walk (x : Pm.Pl) (A : Option Addr) (n c : Nat) (A' : Option Addr) (n' c' : Nat) (w : World) (hp : PlAt w w.heap.size x A n c A' n' c') (ht : Tab w) :
    Calls Tryd.prog 3 #[pv x A n c A' n' c'] w fun e w' => e = .returned (.bool true) ∧ Below w.heap.size w w' := by
  have hx1 := Lib.hid (Bx.new w x A n c A' n' c' 26)
  have hb1 : Hid (Below w.heap.size w (w.alloc (.cells (pvs x A n c A' n' c').toArray 26))) := (Below.refl _ w).alloc (Nat.le_refl _) _
  have HH := Lib.hid (head_any _ (ht.alloc (.cells (pvs x A n c A' n' c').toArray 26)))
  have HPU := Lib.hid (fun W (h : PlAt W w.heap.size x A n c A' n' c') h2 (h3 : Tab W) => Put_any x A n c A' n' c' w.heap.size W h h2 h3)
  have HRU := Lib.hid (fun W (h : PlAt W w.heap.size x A n c A' n' c') h2 => RPut_any x A n c A' n' c' w.heap.size W h h2)
  have HRI := Lib.hid (fun W (h : PlAt W w.heap.size x A n c A' n' c') h2 (h3 : Tab W) => Right_any x A n c A' n' c' w.heap.size W h h2 h3)
  have HRR := Lib.hid (fun W (h : PlAt W w.heap.size x A n c A' n' c') h2 => RRight_any x A n c A' n' c' w.heap.size W h h2)
  have HP := Lib.hid hp
  have HT := Lib.hid ht
  have HBY := Lib.hid (Pm.put_byte hp.ok)
  clear ht hp
  rw [pv_eq] at HPU HRU HRI HRR ⊢
  have HR : Hid (∀ (W : World), Below (w.heap.size + 1) (w.alloc (.cells (pvs x A n c A' n' c').toArray 26)) W → W.rangeAt w.heap.size 0 (pvs x A n c A' n' c')) := fun W h => hx1.out.below h (Nat.lt_succ_self _)
  have HZ1 : Hid ((w.alloc (.cells (pvs x A n c A' n' c').toArray 26)).heap.size = w.heap.size + 1) := World.size_alloc ..
  have HI : Hid ((Tryd.prog.info? 26).map (·.size) = some (pvs x A n c A' n' c').length) := info_plan
  generalize pvs x A n c A' n' c' = L at *
  clear hx1
  generalize x.put.1 = b at *
  generalize x.put.2 = er at *
  generalize x.right = rt at *
  go_enter Tryd.func3, Tryd.ntmps3
  go_wp2_with (go_at_call 10; fail)
  refine HH.out.mono ?_
  rintro e w2 ⟨rfl, hb2⟩
  have hC2 : Hid (Below (w.heap.size + 1) (w.alloc (.cells L.toArray 26)) w2) := hb2.mono (by rw [HZ1.out]; exact Nat.le_refl _)
  have hw2 := Lib.hid (hb1.out.trans (hC2.out.mono (Nat.le_succ _)))
  have hz2 : w.heap.size + 1 ≤ w2.heap.size := by have := hC2.out.size; rw [HZ1.out] at this; exact this
  clear hb2 HH
  go_wp2_with (first | (refine wpList_load_mid rfl 26 _ rfl w.heap.size 0 rfl L _ (HR.out _ hC2.out) Tryd.underlying26 rfl HI.out ?_) | (go_at_call 11; fail))
  refine (HPU.out w2 (HP.out.below hw2.out (Nat.le_refl _)) hw2.out.size (HT.out.below hw2.out (Nat.le_refl _))).mono ?_
  rintro e w3 ⟨v3, rfl, hown3, hb3⟩
  obtain ⟨A3, c3, rfl, hcp3, hcm3, hrd3⟩ := own_view hown3
  have hC3 := Lib.hid (hC2.out.trans (hb3.mono hz2))
  have hw3 := Lib.hid (hb1.out.trans (hC3.out.mono (Nat.le_succ _)))
  have hz3 := Nat.le_trans hz2 hb3.size
  have HRD3 := Lib.hid hrd3
  clear hb3 hC2 hw2 HPU hown3 hrd3
  go_wp2_with (first | (refine wpList_load_mid rfl 26 _ rfl w.heap.size 0 rfl L _ (HR.out _ hC3.out) Tryd.underlying26 rfl HI.out ?_) | (go_at_call 12; fail))
  refine (HRU.out w3 (HP.out.below hw3.out (Nat.le_refl _)) hw3.out.size).mono ?_
  rintro e w4 ⟨v4, rfl, hown4, hb4⟩
  obtain ⟨A4, c4, rfl, hcp4, hcm4, hrd4⟩ := own_view hown4
  have hC4 := Lib.hid (hC3.out.trans (hb4.mono hz3))
  have hw4 := Lib.hid (hb1.out.trans (hC4.out.mono (Nat.le_succ _)))
  have hz4 := Nat.le_trans hz3 hb4.size
  have HRD4 := Lib.hid hrd4
  have HRD3b := Lib.hid (HRD3.out.below hb4)
  have hz34 := hb4.size
  clear hb4 hC3 hw3 HRU hown4 hrd4 HRD3
  have hST : Hid (((strOfNums b).toList == (strOfNums b).toList) = true) := by show _ = _; rw [beq_self_eq_true]
  have hEE : (er == er) = true := by rw [beq_self_eq_true]
  have hRT : (rt == rt) = true := by rw [beq_self_eq_true]
  go_wp2_with fail
  refine region_C (fun W => Below w4.heap.size w4 W) (by kernel_rfl) ?_
  have hC : Below w4.heap.size w4 w4.drew := (Below.refl _ _).drew
  have HS3 := Lib.hid (fun W (h : Below w4.heap.size w4 W) => str_of (cap := c3) (HRD3b.out.below (h.mono hz34)) rfl)
  have HS4 := Lib.hid (fun W (h : Below w4.heap.size w4 W) => str_of (cap := c4) (HRD4.out.below h) rfl)
  refine anyC_take (i := 0) (v := ?v0_1) (a' := ?a0_1) rfl (by kernel_rfl) (by kernel_rfl) (by kernel_rfl) (fun _ _ _ h => h) hC ?w0_1 ?y0_1 ?f0_1 ?r0_1
  case w0_1 => kernel_rfl
  case y0_1 => (intro w hC; go_simp; try with_reducible rfl)
  case f0_1 => (go_simp; try with_reducible rfl)
  refine anyC_take (i := 1) (v := ?v1_2) (a' := ?a1_2) rfl (by kernel_rfl) (by kernel_rfl) (by kernel_rfl) (fun _ _ _ h => h) hC ?w1_2 ?y1_2 ?f1_2 ?r1_2
  case w1_2 => kernel_rfl
  case y1_2 => (intro w hC; go_simp; try with_reducible rfl)
  case f1_2 => (go_simp; try with_reducible rfl)
  refine anyC_take (i := 2) (v := ?v2_3) (a' := ?a2_3) rfl (by kernel_rfl) (by kernel_rfl) (by kernel_rfl) (fun _ _ _ h => h) hC ?w2_3 ?y2_3 ?f2_3 ?r2_3
  case w2_3 => kernel_rfl
  case y2_3 => (intro W hW; exact by refine exec_load 26 (.tmp 1) ?_ w.heap.size ?_ L _ (HR.out _ (hC4.out.trans (hW.mono hz4))) Tryd.underlying26 rfl HI.out <;> rfl)
  case f2_3 => (go_simp; try with_reducible rfl)
  refine anyC_take (i := 4) (v := ?v4_4) (a' := ?a4_4) rfl (by kernel_rfl) (by kernel_rfl) (by kernel_rfl) (fun _ _ _ h => h) hC ?w4_4 ?y4_4 ?f4_4 ?r4_4
  case w4_4 => kernel_rfl
  case y4_4 => (intro W hW; exact by refine exec_load 26 (.tmp 1) ?_ w.heap.size ?_ L _ (HR.out _ (hC4.out.trans (hW.mono hz4))) Tryd.underlying26 rfl HI.out <;> rfl)
  case f4_4 => (go_simp; try with_reducible rfl)
  refine anyC_one (i := 3) rfl (by kernel_rfl) (by kernel_rfl) (fun K hK => ?_)
  go_simp
  have hw5 := hw4.out.drew
  refine (HRI.out w4.drew (HP.out.below hw5 (Nat.le_refl _)) hw5.size (HT.out.below hw5 (Nat.le_refl _))).mono ?_
  rintro e w6 ⟨rfl, hb6⟩
  have hC6 : Below w4.heap.size w4 w6 := hC.trans (hb6.mono (Nat.le_refl _))
  refine hK _ _ ⟨hC6, ?_⟩
  clear hK K hb6 hC hw5
  refine anyC_one (i := 5) rfl (by kernel_rfl) (by kernel_rfl) (fun K hK => ?_)
  go_simp
  have hw6 := hw4.out.trans (hC6.mono (by omega))
  refine (HRR.out w6 (HP.out.below hw6 (Nat.le_refl _)) hw6.size).mono ?_
  rintro e w7 ⟨rfl, hb7⟩
  have hC7 : Below w4.heap.size w4 w7 := hC6.trans (hb7.mono hC6.size)
  refine hK _ _ ⟨hC7, ?_⟩
  clear hK K hb7 hC6 hw6
  refine anyC_take (i := 6) (v := ?v6_5) (a' := ?a6_5) rfl (by kernel_rfl) (by kernel_rfl) (by kernel_rfl) (fun _ _ _ h => h) hC7 ?w6_5 ?y6_5 ?f6_5 ?r6_5
  case w6_5 => kernel_rfl
  case y6_5 => (intro w hC; go_simp; try with_reducible rfl)
  case f6_5 => (go_simp; try with_reducible rfl)
  refine anyC_take (i := 7) (v := ?v7_6) (a' := ?a7_6) rfl (by kernel_rfl) (by kernel_rfl) (by kernel_rfl) (fun _ _ _ h => h) hC7 ?w7_6 ?y7_6 ?f7_6 ?r7_6
  case w7_6 => kernel_rfl
  case y7_6 => (intro w hC; go_simp; try with_reducible rfl)
  case f7_6 => (go_simp; try with_reducible rfl)
  refine anyC_take (i := 8) (v := ?v8_7) (a' := ?a8_7) rfl (by kernel_rfl) (by kernel_rfl) (by kernel_rfl) (fun _ _ _ h => h) hC7 ?w8_7 ?y8_7 ?f8_7 ?r8_7
  case w8_7 => kernel_rfl
  case y8_7 => (intro w hC; go_simp; try with_reducible rfl)
  case f8_7 => (go_simp; try with_reducible rfl)
  refine anyC_take (i := 9) (v := ?v9_8) (a' := ?a9_8) rfl (by kernel_rfl) (by kernel_rfl) (by kernel_rfl) (fun _ _ _ h => h) hC7 ?w9_8 ?y9_8 ?f9_8 ?r9_8
  case w9_8 => kernel_rfl
  case y9_8 => (intro w hC; go_simp; try with_reducible rfl)
  case f9_8 => (go_simp; try with_reducible rfl)
  refine anyC_take (i := 11) (v := ?v11_9) (a' := ?a11_9) rfl (by kernel_rfl) (by kernel_rfl) (by kernel_rfl) (fun _ _ _ h => h) hC7 ?w11_9 ?y11_9 ?f11_9 ?r11_9
  case w11_9 => kernel_rfl
  case y11_9 => (intro w hC; go_simp; try with_reducible rfl)
  case f11_9 => (go_simp; try with_reducible rfl)
  refine anyC_take (i := 10) (v := ?v10_10) (a' := ?a10_10) rfl (by kernel_rfl) (by kernel_rfl) (by kernel_rfl) (fun _ _ _ h => h) hC7 ?w10_10 ?y10_10 ?f10_10 ?r10_10
  case w10_10 => kernel_rfl
  case y10_10 => (intro w hC; have h4 := HS3.out w hC; go_simp; try with_reducible rfl)
  case f10_10 => (go_simp; try with_reducible rfl)
  refine anyC_take (i := 12) (v := ?v12_11) (a' := ?a12_11) rfl (by kernel_rfl) (by kernel_rfl) (by kernel_rfl) (fun _ _ _ h => h) hC7 ?w12_11 ?y12_11 ?f12_11 ?r12_11
  case w12_11 => kernel_rfl
  case y12_11 => (intro w hC; have h4 := HS4.out w hC; go_simp; try with_reducible rfl)
  case f12_11 => (go_simp; try with_reducible rfl)
  refine anyC_take (i := 13) (v := ?v13_12) (a' := ?a13_12) rfl (by kernel_rfl) (by kernel_rfl) (by kernel_rfl) (fun _ _ _ h => h) hC7 ?w13_12 ?y13_12 ?f13_12 ?r13_12
  case w13_12 => kernel_rfl
  case y13_12 => (intro w hC; have h4 := hST.out; go_simp; try with_reducible rfl)
  case f13_12 => (go_simp; try with_reducible rfl)
  refine anyC_take (i := 14) (v := ?v14_13) (a' := ?a14_13) rfl (by kernel_rfl) (by kernel_rfl) (by kernel_rfl) (fun _ _ _ h => h) hC7 ?w14_13 ?y14_13 ?f14_13 ?r14_13
  case w14_13 => kernel_rfl
  case y14_13 => (intro w hC; go_simp; try with_reducible rfl)
  case f14_13 => (go_simp; try with_reducible rfl)
  refine anyC_take (i := 15) (v := ?v15_14) (a' := ?a15_14) rfl (by kernel_rfl) (by kernel_rfl) (by kernel_rfl) (fun _ _ _ h => h) hC7 ?w15_14 ?y15_14 ?f15_14 ?r15_14
  case w15_14 => kernel_rfl
  case y15_14 => (intro w hC; go_simp; try with_reducible rfl)
  case f15_14 => (go_simp; try with_reducible rfl)
  refine anyC_take (i := 16) (v := ?v16_15) (a' := ?a16_15) rfl (by kernel_rfl) (by kernel_rfl) (by kernel_rfl) (fun _ _ _ h => h) hC7 ?w16_15 ?y16_15 ?f16_15 ?r16_15
  case w16_15 => kernel_rfl
  case y16_15 => (intro w hC; go_simp; try with_reducible rfl)
  case f16_15 => (go_simp; try with_reducible rfl)
  refine anyC_take (i := 17) (v := ?v17_16) (a' := ?a17_16) rfl (by kernel_rfl) (by kernel_rfl) (by kernel_rfl) (fun _ _ _ h => h) hC7 ?w17_16 ?y17_16 ?f17_16 ?r17_16
  case w17_16 => kernel_rfl
  case y17_16 => (intro w hC; go_simp; try with_reducible rfl)
  case f17_16 => (go_simp; try with_reducible rfl)
  refine anyC_take (i := 18) (v := ?v18_17) (a' := ?a18_17) rfl (by kernel_rfl) (by kernel_rfl) (by kernel_rfl) (fun _ _ _ h => h) hC7 ?w18_17 ?y18_17 ?f18_17 ?r18_17
  case w18_17 => kernel_rfl
  case y18_17 => (intro w hC; go_simp; try with_reducible rfl)
  case f18_17 => (go_simp; try with_reducible rfl)
  refine anyC_take (i := 19) (v := ?v19_18) (a' := ?a19_18) rfl (by kernel_rfl) (by kernel_rfl) (by kernel_rfl) (fun _ _ _ h => h) hC7 ?w19_18 ?y19_18 ?f19_18 ?r19_18
  case w19_18 => kernel_rfl
  case y19_18 => (intro w hC; go_simp; try with_reducible rfl)
  case f19_18 => (go_simp; try with_reducible rfl)
  refine anyC_take (i := 20) (v := ?v20_19) (a' := ?a20_19) rfl (by kernel_rfl) (by kernel_rfl) (by kernel_rfl) (fun _ _ _ h => h) hC7 ?w20_19 ?y20_19 ?f20_19 ?r20_19
  case w20_19 => kernel_rfl
  case y20_19 => (intro w hC; go_simp; try with_reducible rfl)
  case f20_19 => (go_simp; try with_reducible rfl)
  refine anyC_done (by kernel_rfl) ?_
  go_wp2
  go_ret
  exact ⟨rfl, hw4.out.trans (hC7.mono (by omega))⟩
end Go.Proofs.YtdcdlnmgbgeeeaaDoor
