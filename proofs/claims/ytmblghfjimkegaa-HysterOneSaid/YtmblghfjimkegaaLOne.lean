/- HysterOne, walked. -/
import Derived.Test.YtmblghfjimkegaaHd
namespace Go.Proofs.Ytmblghfjimkegaa
open Go.RowKit Go.Shelf Km Kx

set_option maxRecDepth 100000 in
set_option maxHeartbeats 4000000 in
theorem one_walk (h : Hm.Hy) (a1 a2 : Int) (w : World) (_w0 : -9223372036854775808 ≤ h.run ∧ h.run ≤ 9223372036854775807) (_w1 : (Lit.int .i64 a1).wf = true) (_w2 : (Lit.int .i64 a2).wf = true) :
    Calls Try.prog 6 #[.agg #[.bool h.up, .int .i64 h.run], .int .i64 a1, .int .i64 a2] w fun e w' => e = .returned (.bool true) ∧ Below w.heap.size w w' := by
  have HB := Lib.hid (Bxs.start w)
  obtain ⟨u, r⟩ := h
  go_enter Try.func6, Try.ntmps6
  go_wp2_with (first | (go_at_call 8; refine Calls.mono (head_any _) ?_; rintro e w_ ⟨rfl, hb_⟩; replace HB := Lib.hid (HB.out.call hb_); clear hb_) | (go_at_call 10; refine Calls.mono (Next_same _ _ _ _ _) ?_; rintro e w_ ⟨rfl, hb_⟩; replace HB := Lib.hid (HB.out.call hb_); clear hb_) | (first | ((with_reducible refine Kx.absorb HB ?_); clear HB; intro w_ HB) | ((with_reducible refine Kx.box_gate ?_); first | (refine Kx.wpList_boxa_x HB rfl _ _ rfl _ rfl ?_; clear HB; intro b_ w_ HB; refine Kx.framed ?_ (by simp only [Act.put, List.setIfInBounds_toArray, List.set_cons_succ, List.set_cons_zero] <;> rfl)) | (refine Kx.wpList_boxt_x HB rfl _ _ rfl _ rfl rfl ?_; clear HB; intro b_ w_ HB; refine Kx.framed ?_ (by simp only [Act.put, List.setIfInBounds_toArray, List.set_cons_succ, List.set_cons_zero] <;> rfl)) | (refine Kx.wpList_box1_x HB rfl _ _ rfl _ rfl rfl ?_; clear HB; intro b_ w_ HB; refine Kx.framed ?_ (by simp only [Act.put, List.setIfInBounds_toArray, List.set_cons_succ, List.set_cons_zero] <;> rfl))) | ((with_reducible refine Kx.alloc_gate ?_); first | (refine Kx.wpList_alloca_x HB rfl _ rfl _ (Try.zeroValue23 _) ?_; clear HB; intro b_ w_ HB; refine Kx.framed ?_ (by simp only [Act.put, List.setIfInBounds_toArray, List.set_cons_succ, List.set_cons_zero] <;> rfl)) | (refine Kx.wpList_alloc1_x HB rfl _ rfl _ (Try.zeroValue4 _) rfl ?_; clear HB; intro b_ w_ HB; refine Kx.framed ?_ (by simp only [Act.put, List.setIfInBounds_toArray, List.set_cons_succ, List.set_cons_zero] <;> rfl)) | (refine Kx.wpList_alloc1_x HB rfl _ rfl _ (Try.zeroValue3 _) rfl ?_; clear HB; intro b_ w_ HB; refine Kx.framed ?_ (by simp only [Act.put, List.setIfInBounds_toArray, List.set_cons_succ, List.set_cons_zero] <;> rfl))) | ((with_reducible refine Kx.loads_gate ?_); first | (refine Kx.wpList_load1_x HB rfl _ _ rfl _ rfl _ (Try.isAgg4 _) _ rfl (Kx.framed ?_ (by simp only [Act.put, List.setIfInBounds_toArray, List.set_cons_succ, List.set_cons_zero] <;> rfl))) | (refine Kx.wpList_load1_x HB rfl _ _ rfl _ rfl _ (Try.isAgg3 _) _ rfl (Kx.framed ?_ (by simp only [Act.put, List.setIfInBounds_toArray, List.set_cons_succ, List.set_cons_zero] <;> rfl))) | (refine Kx.wpList_load_x HB rfl _ _ rfl _ rfl _ _ (Try.isAgg23 _) (Try.sizeOf23 _) _ (by simp <;> rfl) (by rfl) (Kx.framed ?_ (by simp only [Act.put, List.setIfInBounds_toArray, List.set_cons_succ, List.set_cons_zero] <;> rfl))) | (refine Kx.wpList_old_x HB rfl _ _ rfl _ rfl (Try.isAgg4 _) _ HC.out (Kx.framed ?_ (by simp only [Act.put, List.setIfInBounds_toArray, List.set_cons_succ, List.set_cons_zero] <;> rfl))) | (refine Kx.wpList_old_x HB rfl _ _ rfl _ rfl (Try.isAgg3 _) _ HC.out (Kx.framed ?_ (by simp only [Act.put, List.setIfInBounds_toArray, List.set_cons_succ, List.set_cons_zero] <;> rfl)))) | ((with_reducible refine Kx.loadg_gate ?_); first | (refine Kx.wpList_loadg_x HB _ _ rfl _ rfl _ (Try.isAgg4 _) _ rfl rfl (Kx.framed ?_ (by simp only [Act.put, List.setIfInBounds_toArray, List.set_cons_succ, List.set_cons_zero] <;> rfl))) | (refine Kx.wpList_loadg_x HB _ _ rfl _ rfl _ (Try.isAgg3 _) _ rfl rfl (Kx.framed ?_ (by simp only [Act.put, List.setIfInBounds_toArray, List.set_cons_succ, List.set_cons_zero] <;> rfl))) | (refine Kx.wpList_loadga_x HB _ _ rfl _ rfl _ _ (Try.isAgg23 _) (Try.sizeOf23 _) _ (by simp <;> rfl) (by rfl) rfl (Kx.framed ?_ (by simp only [Act.put, List.setIfInBounds_toArray, List.set_cons_succ, List.set_cons_zero] <;> rfl)))) | ((with_reducible refine Kx.store_gate ?_); first | (refine Kx.wpList_storewa_x HB rfl rfl _ _ _ rfl _ rfl _ rfl _ (by rfl) (by simp <;> rfl) (by rfl) ?_; clear HB; intro w_ HB) | (refine Kx.wpList_storea_x HB rfl rfl _ _ _ rfl _ rfl _ rfl _ _ (by simp [Kx.splice] <;> rfl) (by decide) (by simp <;> rfl) (by rfl) ?_; clear HB; intro w_ HB) | (refine Kx.wpList_storet_x HB rfl rfl _ _ _ rfl _ rfl _ rfl rfl _ _ (by simp <;> rfl) (by simp) (by simp <;> rfl) ?_; clear HB; intro w_ HB) | (refine Kx.wpList_store1_x HB rfl rfl _ _ _ rfl _ rfl _ rfl rfl _ _ (by simp <;> rfl) (by simp) (by simp <;> rfl) ?_; clear HB; intro w_ HB))))
  refine Kx.region_x HB (fun i => false) (by kernel_rfl) ?_
  refine anyW_take (i := 0) (v := ?v0_1) (a' := ?a0_1) (by first | exact Kx.bears_x | assumption) rfl (by kernel_rfl) (by kernel_rfl) (by kernel_rfl) (fun _ _ _ h => h) (by kernel_rfl) ?w0_1 ?y0_1 ?f0_1 ?r0_1
  case w0_1 => kernel_rfl
  case y0_1 => (intro w hC; go_simp; try with_reducible rfl)
  case f0_1 => (go_simp; try with_reducible rfl)
  refine anyW_take (i := 1) (v := ?v1_2) (a' := ?a1_2) (by first | exact Kx.bears_x | assumption) rfl (by kernel_rfl) (by kernel_rfl) (by kernel_rfl) (fun _ _ _ h => h) (by kernel_rfl) ?w1_2 ?y1_2 ?f1_2 ?r1_2
  case w1_2 => kernel_rfl
  case y1_2 => (intro w hC; go_simp; try with_reducible rfl)
  case f1_2 => (go_simp; try with_reducible rfl)
  refine anyW_take (i := 2) (v := ?v2_3) (a' := ?a2_3) (by first | exact Kx.bears_x | assumption) rfl (by kernel_rfl) (by kernel_rfl) (by kernel_rfl) (fun _ _ _ h => h) (by kernel_rfl) ?w2_3 ?y2_3 ?f2_3 ?r2_3
  case w2_3 => kernel_rfl
  case y2_3 => (intro w hC; go_simp; try with_reducible rfl)
  case f2_3 => (go_simp; try with_reducible rfl)
  refine anyW_take (i := 3) (v := ?v3_4) (a' := ?a3_4) (by first | exact Kx.bears_x | assumption) rfl (by kernel_rfl) (by kernel_rfl) (by kernel_rfl) (fun _ _ _ h => h) (by kernel_rfl) ?w3_4 ?y3_4 ?f3_4 ?r3_4
  case w3_4 => kernel_rfl
  case y3_4 => (intro W hW; first | (refine Eq.trans (Kx.tells_load1_x hW _ _ rfl _ inferInstance (Try.isAgg4 _) rfl) ?_; with_reducible rfl) | (refine Eq.trans (Kx.tells_load1_x hW _ _ rfl _ inferInstance (Try.isAgg3 _) rfl) ?_; with_reducible rfl) | (refine Eq.trans (Kx.tells_old_x hW _ rfl (Try.isAgg4 _) HC.out) ?_; with_reducible rfl) | (refine Eq.trans (Kx.tells_old_x hW _ rfl (Try.isAgg3 _) HC.out) ?_; with_reducible rfl) | (refine Eq.trans (Kx.tells_load_x hW _ _ rfl _ inferInstance _ (Try.isAgg23 _) (Try.sizeOf23 _) _ (by simp <;> rfl) (by rfl) rfl) ?_; with_reducible rfl))
  case f3_4 => (go_simp; try with_reducible rfl)
  refine anyW_take (i := 4) (v := ?v4_5) (a' := ?a4_5) (by first | exact Kx.bears_x | assumption) rfl (by kernel_rfl) (by kernel_rfl) (by kernel_rfl) (fun _ _ _ h => h) (by kernel_rfl) ?w4_5 ?y4_5 ?f4_5 ?r4_5
  case w4_5 => kernel_rfl
  case y4_5 => (intro w hC; go_simp; try with_reducible rfl)
  case f4_5 => (go_simp; try with_reducible rfl)
  refine anyW_take (i := 5) (v := ?v5_6) (a' := ?a5_6) (by first | exact Kx.bears_x | assumption) rfl (by kernel_rfl) (by kernel_rfl) (by kernel_rfl) (fun _ _ _ h => h) (by kernel_rfl) ?w5_6 ?y5_6 ?f5_6 ?r5_6
  case w5_6 => kernel_rfl
  case y5_6 => (intro W hW; first | (refine Eq.trans (Kx.tells_load1_x hW _ _ rfl _ inferInstance (Try.isAgg4 _) rfl) ?_; with_reducible rfl) | (refine Eq.trans (Kx.tells_load1_x hW _ _ rfl _ inferInstance (Try.isAgg3 _) rfl) ?_; with_reducible rfl) | (refine Eq.trans (Kx.tells_old_x hW _ rfl (Try.isAgg4 _) HC.out) ?_; with_reducible rfl) | (refine Eq.trans (Kx.tells_old_x hW _ rfl (Try.isAgg3 _) HC.out) ?_; with_reducible rfl) | (refine Eq.trans (Kx.tells_load_x hW _ _ rfl _ inferInstance _ (Try.isAgg23 _) (Try.sizeOf23 _) _ (by simp <;> rfl) (by rfl) rfl) ?_; with_reducible rfl))
  case f5_6 => (go_simp; try with_reducible rfl)
  refine anyW_take (i := 6) (v := ?v6_7) (a' := ?a6_7) (by first | exact Kx.bears_x | assumption) rfl (by kernel_rfl) (by kernel_rfl) (by kernel_rfl) (fun _ _ _ h => h) (by kernel_rfl) ?w6_7 ?y6_7 ?f6_7 ?r6_7
  case w6_7 => kernel_rfl
  case y6_7 => (intro w hC; go_simp; try with_reducible rfl)
  case f6_7 => (go_simp; try with_reducible rfl)
  refine anyW_take (i := 7) (v := ?v7_8) (a' := ?a7_8) (by first | exact Kx.bears_x | assumption) rfl (by kernel_rfl) (by kernel_rfl) (by kernel_rfl) (fun _ _ _ h => h) (by kernel_rfl) ?w7_8 ?y7_8 ?f7_8 ?r7_8
  case w7_8 => kernel_rfl
  case y7_8 => (intro w hC; go_simp; try with_reducible rfl)
  case f7_8 => (go_simp; try with_reducible rfl)
  refine anyW_take (i := 8) (v := ?v8_9) (a' := ?a8_9) (by first | exact Kx.bears_x | assumption) rfl (by kernel_rfl) (by kernel_rfl) (by kernel_rfl) (fun _ _ _ h => h) (by kernel_rfl) ?w8_9 ?y8_9 ?f8_9 ?r8_9
  case w8_9 => kernel_rfl
  case y8_9 => (intro w hC; go_simp; try with_reducible rfl)
  case f8_9 => (go_simp; try with_reducible rfl)
  refine anyW_take (i := 9) (v := ?v9_10) (a' := ?a9_10) (by first | exact Kx.bears_x | assumption) rfl (by kernel_rfl) (by kernel_rfl) (by kernel_rfl) (fun _ _ _ h => h) (by kernel_rfl) ?w9_10 ?y9_10 ?f9_10 ?r9_10
  case w9_10 => kernel_rfl
  case y9_10 => (intro w hC; go_simp; try with_reducible rfl)
  case f9_10 => (go_simp; try with_reducible rfl)
  refine anyW_take (i := 10) (v := ?v10_11) (a' := ?a10_11) (by first | exact Kx.bears_x | assumption) rfl (by kernel_rfl) (by kernel_rfl) (by kernel_rfl) (fun _ _ _ h => h) (by kernel_rfl) ?w10_11 ?y10_11 ?f10_11 ?r10_11
  case w10_11 => kernel_rfl
  case y10_11 => (intro W hW; first | (refine Eq.trans (Kx.tells_load1_x hW _ _ rfl _ inferInstance (Try.isAgg4 _) rfl) ?_; with_reducible rfl) | (refine Eq.trans (Kx.tells_load1_x hW _ _ rfl _ inferInstance (Try.isAgg3 _) rfl) ?_; with_reducible rfl) | (refine Eq.trans (Kx.tells_old_x hW _ rfl (Try.isAgg4 _) HC.out) ?_; with_reducible rfl) | (refine Eq.trans (Kx.tells_old_x hW _ rfl (Try.isAgg3 _) HC.out) ?_; with_reducible rfl) | (refine Eq.trans (Kx.tells_load_x hW _ _ rfl _ inferInstance _ (Try.isAgg23 _) (Try.sizeOf23 _) _ (by simp <;> rfl) (by rfl) rfl) ?_; with_reducible rfl))
  case f10_11 => (go_simp; try with_reducible rfl)
  refine anyW_take (i := 11) (v := ?v11_12) (a' := ?a11_12) (by first | exact Kx.bears_x | assumption) rfl (by kernel_rfl) (by kernel_rfl) (by kernel_rfl) (fun _ _ _ h => h) (by kernel_rfl) ?w11_12 ?y11_12 ?f11_12 ?r11_12
  case w11_12 => kernel_rfl
  case y11_12 => (intro w hC; go_simp; try with_reducible rfl)
  case f11_12 => (go_simp; try with_reducible rfl)
  refine anyW_take (i := 12) (v := ?v12_13) (a' := ?a12_13) (by first | exact Kx.bears_x | assumption) rfl (by kernel_rfl) (by kernel_rfl) (by kernel_rfl) (fun _ _ _ h => h) (by kernel_rfl) ?w12_13 ?y12_13 ?f12_13 ?r12_13
  case w12_13 => kernel_rfl
  case y12_13 => (intro w hC; go_simp; try with_reducible rfl)
  case f12_13 => (go_simp; try with_reducible rfl)
  refine anyW_take (i := 13) (v := ?v13_14) (a' := ?a13_14) (by first | exact Kx.bears_x | assumption) rfl (by kernel_rfl) (by kernel_rfl) (by kernel_rfl) (fun _ _ _ h => h) (by kernel_rfl) ?w13_14 ?y13_14 ?f13_14 ?r13_14
  case w13_14 => kernel_rfl
  case y13_14 => (intro w hC; go_simp; try with_reducible rfl)
  case f13_14 => (go_simp; try with_reducible rfl)
  refine anyW_take (i := 14) (v := ?v14_15) (a' := ?a14_15) (by first | exact Kx.bears_x | assumption) rfl (by kernel_rfl) (by kernel_rfl) (by kernel_rfl) (fun _ _ _ h => h) (by kernel_rfl) ?w14_15 ?y14_15 ?f14_15 ?r14_15
  case w14_15 => kernel_rfl
  case y14_15 => (intro W hW; first | (refine Eq.trans (Kx.tells_load1_x hW _ _ rfl _ inferInstance (Try.isAgg4 _) rfl) ?_; with_reducible rfl) | (refine Eq.trans (Kx.tells_load1_x hW _ _ rfl _ inferInstance (Try.isAgg3 _) rfl) ?_; with_reducible rfl) | (refine Eq.trans (Kx.tells_old_x hW _ rfl (Try.isAgg4 _) HC.out) ?_; with_reducible rfl) | (refine Eq.trans (Kx.tells_old_x hW _ rfl (Try.isAgg3 _) HC.out) ?_; with_reducible rfl) | (refine Eq.trans (Kx.tells_load_x hW _ _ rfl _ inferInstance _ (Try.isAgg23 _) (Try.sizeOf23 _) _ (by simp <;> rfl) (by rfl) rfl) ?_; with_reducible rfl))
  case f14_15 => (go_simp; try with_reducible rfl)
  refine anyW_take (i := 15) (v := ?v15_16) (a' := ?a15_16) (by first | exact Kx.bears_x | assumption) rfl (by kernel_rfl) (by kernel_rfl) (by kernel_rfl) (fun _ _ _ h => h) (by kernel_rfl) ?w15_16 ?y15_16 ?f15_16 ?r15_16
  case w15_16 => kernel_rfl
  case y15_16 => (intro w hC; go_simp; try with_reducible rfl)
  case f15_16 => (go_simp; try with_reducible rfl)
  refine anyW_take (i := 16) (v := ?v16_17) (a' := ?a16_17) (by first | exact Kx.bears_x | assumption) rfl (by kernel_rfl) (by kernel_rfl) (by kernel_rfl) (fun _ _ _ h => h) (by kernel_rfl) ?w16_17 ?y16_17 ?f16_17 ?r16_17
  case w16_17 => kernel_rfl
  case y16_17 => (intro W hW; first | (refine Eq.trans (Kx.tells_load1_x hW _ _ rfl _ inferInstance (Try.isAgg4 _) rfl) ?_; with_reducible rfl) | (refine Eq.trans (Kx.tells_load1_x hW _ _ rfl _ inferInstance (Try.isAgg3 _) rfl) ?_; with_reducible rfl) | (refine Eq.trans (Kx.tells_old_x hW _ rfl (Try.isAgg4 _) HC.out) ?_; with_reducible rfl) | (refine Eq.trans (Kx.tells_old_x hW _ rfl (Try.isAgg3 _) HC.out) ?_; with_reducible rfl) | (refine Eq.trans (Kx.tells_load_x hW _ _ rfl _ inferInstance _ (Try.isAgg23 _) (Try.sizeOf23 _) _ (by simp <;> rfl) (by rfl) rfl) ?_; with_reducible rfl))
  case f16_17 => (go_simp; try with_reducible rfl)
  refine anyW_take (i := 17) (v := ?v17_18) (a' := ?a17_18) (by first | exact Kx.bears_x | assumption) rfl (by kernel_rfl) (by kernel_rfl) (by kernel_rfl) (fun _ _ _ h => h) (by kernel_rfl) ?w17_18 ?y17_18 ?f17_18 ?r17_18
  case w17_18 => kernel_rfl
  case y17_18 => (intro w hC; go_simp; try with_reducible rfl)
  case f17_18 => (go_simp; try with_reducible rfl)
  refine anyW_take (i := 18) (v := ?v18_19) (a' := ?a18_19) (by first | exact Kx.bears_x | assumption) rfl (by kernel_rfl) (by kernel_rfl) (by kernel_rfl) (fun _ _ _ h => h) (by kernel_rfl) ?w18_19 ?y18_19 ?f18_19 ?r18_19
  case w18_19 => kernel_rfl
  case y18_19 => (intro w hC; go_simp; try with_reducible rfl)
  case f18_19 => (go_simp; try with_reducible rfl)
  refine anyW_call (i := 19) (v := ?v19_20) (f := ?g19_20) (args := ?s19_20) (a' := ?a19_20) (by first | exact Kx.bears_x | assumption) rfl (by kernel_rfl) (by kernel_rfl) (by kernel_rfl) (fun _ _ _ h => h) (by kernel_rfl) ?c19_20 ?w19_20 ?y19_20 ?f19_20 ?r19_20
  case w19_20 => kernel_rfl
  case y19_20 => (intro W hW; go_simp; first | (refine ⟨?_, ?_⟩ <;> with_reducible rfl) | with_reducible rfl)
  case c19_20 => (intro W hW; refine Calls.mono (Next_same _ _ _ _ _) ?_; rintro e w_ ⟨rfl, hb_⟩; refine ⟨?_, by first | exact hb_ | exact hb_ ▸ Below.refl _ _⟩; with_reducible rfl)
  case f19_20 => (go_simp; try with_reducible rfl)
  refine anyW_take (i := 20) (v := ?v20_21) (a' := ?a20_21) (by first | exact Kx.bears_x | assumption) rfl (by kernel_rfl) (by kernel_rfl) (by kernel_rfl) (fun _ _ _ h => h) (by kernel_rfl) ?w20_21 ?y20_21 ?f20_21 ?r20_21
  case w20_21 => kernel_rfl
  case y20_21 => (intro W hW; first | (refine Eq.trans (Kx.tells_load1_x hW _ _ rfl _ inferInstance (Try.isAgg4 _) rfl) ?_; with_reducible rfl) | (refine Eq.trans (Kx.tells_load1_x hW _ _ rfl _ inferInstance (Try.isAgg3 _) rfl) ?_; with_reducible rfl) | (refine Eq.trans (Kx.tells_old_x hW _ rfl (Try.isAgg4 _) HC.out) ?_; with_reducible rfl) | (refine Eq.trans (Kx.tells_old_x hW _ rfl (Try.isAgg3 _) HC.out) ?_; with_reducible rfl) | (refine Eq.trans (Kx.tells_load_x hW _ _ rfl _ inferInstance _ (Try.isAgg23 _) (Try.sizeOf23 _) _ (by simp <;> rfl) (by rfl) rfl) ?_; with_reducible rfl))
  case f20_21 => (go_simp; try with_reducible rfl)
  refine anyW_call (i := 21) (v := ?v21_22) (f := ?g21_22) (args := ?s21_22) (a' := ?a21_22) (by first | exact Kx.bears_x | assumption) rfl (by kernel_rfl) (by kernel_rfl) (by kernel_rfl) (fun _ _ _ h => h) (by kernel_rfl) ?c21_22 ?w21_22 ?y21_22 ?f21_22 ?r21_22
  case w21_22 => kernel_rfl
  case y21_22 => (intro W hW; go_simp; first | (refine ⟨?_, ?_⟩ <;> with_reducible rfl) | with_reducible rfl)
  case c21_22 => (intro W hW; refine Calls.mono (Same_any _ _ _ _ _) ?_; rintro e w_ ⟨rfl, hb_⟩; refine ⟨?_, by first | exact hb_ | exact hb_ ▸ Below.refl _ _⟩; with_reducible rfl)
  case f21_22 => (go_simp; try with_reducible rfl)
  refine anyW_take (i := 22) (v := ?v22_23) (a' := ?a22_23) (by first | exact Kx.bears_x | assumption) rfl (by kernel_rfl) (by kernel_rfl) (by kernel_rfl) (fun _ _ _ h => h) (by kernel_rfl) ?w22_23 ?y22_23 ?f22_23 ?r22_23
  case w22_23 => kernel_rfl
  case y22_23 => (intro w hC; go_simp; try with_reducible rfl)
  case f22_23 => (go_simp; try with_reducible rfl)
  refine anyW_take (i := 23) (v := ?v23_24) (a' := ?a23_24) (by first | exact Kx.bears_x | assumption) rfl (by kernel_rfl) (by kernel_rfl) (by kernel_rfl) (fun _ _ _ h => h) (by kernel_rfl) ?w23_24 ?y23_24 ?f23_24 ?r23_24
  case w23_24 => kernel_rfl
  case y23_24 => (intro w hC; go_simp; try with_reducible rfl)
  case f23_24 => (go_simp; try with_reducible rfl)
  refine anyW_done (by kernel_rfl) ?_
  clear HB
  intro w_ HB_
  have HB := Lib.hid HB_
  clear HB_
  go_wp2
  go_ret
  exact ⟨by simp, HB.out.below⟩
end Go.Proofs.Ytmblghfjimkegaa
