/- HysterNext, walked. -/
import Derived.Test.YtmblghfjimkegaaHd
namespace Go.Proofs.Ytmblghfjimkegaa
open Go.RowKit Go.Shelf Km Kx

set_option maxRecDepth 100000 in
set_option maxHeartbeats 4000000 in
theorem next_walk (h : Hm.Hy) (a1 : Option Addr) (len1 cap1 : Nat) (l : List Bool) (a2 a3 : Int) (w : World) (_w0 : -9223372036854775808 ≤ h.run ∧ h.run ≤ 9223372036854775807) (w1 : BitsAt w a1 len1 cap1 l) (_w2 : (Lit.int .i64 a2).wf = true) (_w3 : (Lit.int .i64 a3).wf = true) :
    Calls Try.prog 3 #[.agg #[.bool h.up, .int .i64 h.run], .slice a1 len1 cap1, .int .i64 a2, .int .i64 a3] w fun e w' => e = .returned (.bool true) ∧ Below w.heap.size w w' := by
  have HB := Lib.hid (Bxs.start w)
  obtain ⟨hn, -, -, hr⟩ := w1
  have HN := Lib.hid hn
  have HR := Lib.hid hr
  clear hn hr
  by_cases hg : 100000 < len1
  · have d1 : decide ((100000 : Int) < (len1 : Int)) = true := by simp; omega
    go_enter Try.func3, Try.ntmps3
    go_wp2_with (first | (go_at_call 8; refine Calls.mono (head_any _) ?_; rintro e w_ ⟨rfl, hb_⟩; replace HB := Lib.hid (HB.out.call hb_); clear hb_) | (first | ((with_reducible refine Kx.absorb HB ?_); clear HB; intro w_ HB) | ((with_reducible refine Kx.box_gate (d := some 4) ?_); first | (refine Kx.wpList_boxa_x HB rfl _ _ rfl _ rfl ?_; clear HB; intro b4 w_ HB; refine Kx.framed ?_ (by simp only [Act.put, List.setIfInBounds_toArray, List.set_cons_succ, List.set_cons_zero] <;> rfl)) | (refine Kx.wpList_boxt_x HB rfl _ _ rfl _ rfl rfl ?_; clear HB; intro b4 w_ HB; refine Kx.framed ?_ (by simp only [Act.put, List.setIfInBounds_toArray, List.set_cons_succ, List.set_cons_zero] <;> rfl)) | (refine Kx.wpList_box1_x HB rfl _ _ rfl _ rfl rfl ?_; clear HB; intro b4 w_ HB; refine Kx.framed ?_ (by simp only [Act.put, List.setIfInBounds_toArray, List.set_cons_succ, List.set_cons_zero] <;> rfl))) | ((with_reducible refine Kx.alloc_gate (d := some 4) ?_); first | (refine Kx.wpList_alloca_x HB rfl _ rfl _ (Try.zeroValue23 _) ?_; clear HB; intro b4 w_ HB; refine Kx.framed ?_ (by simp only [Act.put, List.setIfInBounds_toArray, List.set_cons_succ, List.set_cons_zero] <;> rfl)) | (refine Kx.wpList_alloc1_x HB rfl _ rfl _ (Try.zeroValue4 _) rfl ?_; clear HB; intro b4 w_ HB; refine Kx.framed ?_ (by simp only [Act.put, List.setIfInBounds_toArray, List.set_cons_succ, List.set_cons_zero] <;> rfl)) | (refine Kx.wpList_alloc1_x HB rfl _ rfl _ (Try.zeroValue3 _) rfl ?_; clear HB; intro b4 w_ HB; refine Kx.framed ?_ (by simp only [Act.put, List.setIfInBounds_toArray, List.set_cons_succ, List.set_cons_zero] <;> rfl))) | ((with_reducible refine Kx.box_gate ?_); first | (refine Kx.wpList_boxa_x HB rfl _ _ rfl _ rfl ?_; clear HB; intro b_ w_ HB; refine Kx.framed ?_ (by simp only [Act.put, List.setIfInBounds_toArray, List.set_cons_succ, List.set_cons_zero] <;> rfl)) | (refine Kx.wpList_boxt_x HB rfl _ _ rfl _ rfl rfl ?_; clear HB; intro b_ w_ HB; refine Kx.framed ?_ (by simp only [Act.put, List.setIfInBounds_toArray, List.set_cons_succ, List.set_cons_zero] <;> rfl)) | (refine Kx.wpList_box1_x HB rfl _ _ rfl _ rfl rfl ?_; clear HB; intro b_ w_ HB; refine Kx.framed ?_ (by simp only [Act.put, List.setIfInBounds_toArray, List.set_cons_succ, List.set_cons_zero] <;> rfl))) | ((with_reducible refine Kx.alloc_gate ?_); first | (refine Kx.wpList_alloca_x HB rfl _ rfl _ (Try.zeroValue23 _) ?_; clear HB; intro b_ w_ HB; refine Kx.framed ?_ (by simp only [Act.put, List.setIfInBounds_toArray, List.set_cons_succ, List.set_cons_zero] <;> rfl)) | (refine Kx.wpList_alloc1_x HB rfl _ rfl _ (Try.zeroValue4 _) rfl ?_; clear HB; intro b_ w_ HB; refine Kx.framed ?_ (by simp only [Act.put, List.setIfInBounds_toArray, List.set_cons_succ, List.set_cons_zero] <;> rfl)) | (refine Kx.wpList_alloc1_x HB rfl _ rfl _ (Try.zeroValue3 _) rfl ?_; clear HB; intro b_ w_ HB; refine Kx.framed ?_ (by simp only [Act.put, List.setIfInBounds_toArray, List.set_cons_succ, List.set_cons_zero] <;> rfl))) | ((with_reducible refine Kx.loads_gate ?_); first | (refine Kx.wpList_load1_x HB rfl _ _ rfl _ rfl _ (Try.isAgg4 _) _ rfl (Kx.framed ?_ (by simp only [Act.put, List.setIfInBounds_toArray, List.set_cons_succ, List.set_cons_zero] <;> rfl))) | (refine Kx.wpList_load1_x HB rfl _ _ rfl _ rfl _ (Try.isAgg3 _) _ rfl (Kx.framed ?_ (by simp only [Act.put, List.setIfInBounds_toArray, List.set_cons_succ, List.set_cons_zero] <;> rfl))) | (refine Kx.wpList_load_x HB rfl _ _ rfl _ rfl _ _ (Try.isAgg23 _) (Try.sizeOf23 _) _ (by simp <;> rfl) (by rfl) (Kx.framed ?_ (by simp only [Act.put, List.setIfInBounds_toArray, List.set_cons_succ, List.set_cons_zero] <;> rfl))) | (refine Kx.wpList_old_x HB rfl _ _ rfl _ rfl (Try.isAgg4 _) _ HC.out (Kx.framed ?_ (by simp only [Act.put, List.setIfInBounds_toArray, List.set_cons_succ, List.set_cons_zero] <;> rfl))) | (refine Kx.wpList_old_x HB rfl _ _ rfl _ rfl (Try.isAgg3 _) _ HC.out (Kx.framed ?_ (by simp only [Act.put, List.setIfInBounds_toArray, List.set_cons_succ, List.set_cons_zero] <;> rfl)))) | ((with_reducible refine Kx.loadg_gate ?_); first | (refine Kx.wpList_loadg_x HB _ _ rfl _ rfl _ (Try.isAgg4 _) _ rfl rfl (Kx.framed ?_ (by simp only [Act.put, List.setIfInBounds_toArray, List.set_cons_succ, List.set_cons_zero] <;> rfl))) | (refine Kx.wpList_loadg_x HB _ _ rfl _ rfl _ (Try.isAgg3 _) _ rfl rfl (Kx.framed ?_ (by simp only [Act.put, List.setIfInBounds_toArray, List.set_cons_succ, List.set_cons_zero] <;> rfl))) | (refine Kx.wpList_loadga_x HB _ _ rfl _ rfl _ _ (Try.isAgg23 _) (Try.sizeOf23 _) _ (by simp <;> rfl) (by rfl) rfl (Kx.framed ?_ (by simp only [Act.put, List.setIfInBounds_toArray, List.set_cons_succ, List.set_cons_zero] <;> rfl)))) | ((with_reducible refine Kx.store_gate ?_); first | (refine Kx.wpList_storewa_x HB rfl rfl _ _ _ rfl _ rfl _ rfl _ (by rfl) (by simp <;> rfl) (by rfl) ?_; clear HB; intro w_ HB) | (refine Kx.wpList_storea_x HB rfl rfl _ _ _ rfl _ rfl _ rfl _ _ (by simp [Kx.splice] <;> rfl) (by decide) (by simp <;> rfl) (by rfl) ?_; clear HB; intro w_ HB) | (refine Kx.wpList_storet_x HB rfl rfl _ _ _ rfl _ rfl _ rfl rfl _ _ (by simp <;> rfl) (by simp) (by simp <;> rfl) ?_; clear HB; intro w_ HB) | (refine Kx.wpList_store1_x HB rfl rfl _ _ _ rfl _ rfl _ rfl rfl _ _ (by simp <;> rfl) (by simp) (by simp <;> rfl) ?_; clear HB; intro w_ HB))))
    go_ret
    exact ⟨rfl, HB.out.below⟩
  · have d1 : decide ((100000 : Int) < (len1 : Int)) = false := by simp; omega
    by_cases hz : len1 = 0
    · subst hz
      go_enter Try.func3, Try.ntmps3
      go_wp2_with (first | (go_at_call 8; refine Calls.mono (head_any _) ?_; rintro e w_ ⟨rfl, hb_⟩; replace HB := Lib.hid (HB.out.call hb_); clear hb_) | (first | ((with_reducible refine Kx.absorb HB ?_); clear HB; intro w_ HB) | ((with_reducible refine Kx.box_gate (d := some 4) ?_); first | (refine Kx.wpList_boxa_x HB rfl _ _ rfl _ rfl ?_; clear HB; intro b4 w_ HB; refine Kx.framed ?_ (by simp only [Act.put, List.setIfInBounds_toArray, List.set_cons_succ, List.set_cons_zero] <;> rfl)) | (refine Kx.wpList_boxt_x HB rfl _ _ rfl _ rfl rfl ?_; clear HB; intro b4 w_ HB; refine Kx.framed ?_ (by simp only [Act.put, List.setIfInBounds_toArray, List.set_cons_succ, List.set_cons_zero] <;> rfl)) | (refine Kx.wpList_box1_x HB rfl _ _ rfl _ rfl rfl ?_; clear HB; intro b4 w_ HB; refine Kx.framed ?_ (by simp only [Act.put, List.setIfInBounds_toArray, List.set_cons_succ, List.set_cons_zero] <;> rfl))) | ((with_reducible refine Kx.alloc_gate (d := some 4) ?_); first | (refine Kx.wpList_alloca_x HB rfl _ rfl _ (Try.zeroValue23 _) ?_; clear HB; intro b4 w_ HB; refine Kx.framed ?_ (by simp only [Act.put, List.setIfInBounds_toArray, List.set_cons_succ, List.set_cons_zero] <;> rfl)) | (refine Kx.wpList_alloc1_x HB rfl _ rfl _ (Try.zeroValue4 _) rfl ?_; clear HB; intro b4 w_ HB; refine Kx.framed ?_ (by simp only [Act.put, List.setIfInBounds_toArray, List.set_cons_succ, List.set_cons_zero] <;> rfl)) | (refine Kx.wpList_alloc1_x HB rfl _ rfl _ (Try.zeroValue3 _) rfl ?_; clear HB; intro b4 w_ HB; refine Kx.framed ?_ (by simp only [Act.put, List.setIfInBounds_toArray, List.set_cons_succ, List.set_cons_zero] <;> rfl))) | ((with_reducible refine Kx.box_gate ?_); first | (refine Kx.wpList_boxa_x HB rfl _ _ rfl _ rfl ?_; clear HB; intro b_ w_ HB; refine Kx.framed ?_ (by simp only [Act.put, List.setIfInBounds_toArray, List.set_cons_succ, List.set_cons_zero] <;> rfl)) | (refine Kx.wpList_boxt_x HB rfl _ _ rfl _ rfl rfl ?_; clear HB; intro b_ w_ HB; refine Kx.framed ?_ (by simp only [Act.put, List.setIfInBounds_toArray, List.set_cons_succ, List.set_cons_zero] <;> rfl)) | (refine Kx.wpList_box1_x HB rfl _ _ rfl _ rfl rfl ?_; clear HB; intro b_ w_ HB; refine Kx.framed ?_ (by simp only [Act.put, List.setIfInBounds_toArray, List.set_cons_succ, List.set_cons_zero] <;> rfl))) | ((with_reducible refine Kx.alloc_gate ?_); first | (refine Kx.wpList_alloca_x HB rfl _ rfl _ (Try.zeroValue23 _) ?_; clear HB; intro b_ w_ HB; refine Kx.framed ?_ (by simp only [Act.put, List.setIfInBounds_toArray, List.set_cons_succ, List.set_cons_zero] <;> rfl)) | (refine Kx.wpList_alloc1_x HB rfl _ rfl _ (Try.zeroValue4 _) rfl ?_; clear HB; intro b_ w_ HB; refine Kx.framed ?_ (by simp only [Act.put, List.setIfInBounds_toArray, List.set_cons_succ, List.set_cons_zero] <;> rfl)) | (refine Kx.wpList_alloc1_x HB rfl _ rfl _ (Try.zeroValue3 _) rfl ?_; clear HB; intro b_ w_ HB; refine Kx.framed ?_ (by simp only [Act.put, List.setIfInBounds_toArray, List.set_cons_succ, List.set_cons_zero] <;> rfl))) | ((with_reducible refine Kx.loads_gate ?_); first | (refine Kx.wpList_load1_x HB rfl _ _ rfl _ rfl _ (Try.isAgg4 _) _ rfl (Kx.framed ?_ (by simp only [Act.put, List.setIfInBounds_toArray, List.set_cons_succ, List.set_cons_zero] <;> rfl))) | (refine Kx.wpList_load1_x HB rfl _ _ rfl _ rfl _ (Try.isAgg3 _) _ rfl (Kx.framed ?_ (by simp only [Act.put, List.setIfInBounds_toArray, List.set_cons_succ, List.set_cons_zero] <;> rfl))) | (refine Kx.wpList_load_x HB rfl _ _ rfl _ rfl _ _ (Try.isAgg23 _) (Try.sizeOf23 _) _ (by simp <;> rfl) (by rfl) (Kx.framed ?_ (by simp only [Act.put, List.setIfInBounds_toArray, List.set_cons_succ, List.set_cons_zero] <;> rfl))) | (refine Kx.wpList_old_x HB rfl _ _ rfl _ rfl (Try.isAgg4 _) _ HC.out (Kx.framed ?_ (by simp only [Act.put, List.setIfInBounds_toArray, List.set_cons_succ, List.set_cons_zero] <;> rfl))) | (refine Kx.wpList_old_x HB rfl _ _ rfl _ rfl (Try.isAgg3 _) _ HC.out (Kx.framed ?_ (by simp only [Act.put, List.setIfInBounds_toArray, List.set_cons_succ, List.set_cons_zero] <;> rfl)))) | ((with_reducible refine Kx.loadg_gate ?_); first | (refine Kx.wpList_loadg_x HB _ _ rfl _ rfl _ (Try.isAgg4 _) _ rfl rfl (Kx.framed ?_ (by simp only [Act.put, List.setIfInBounds_toArray, List.set_cons_succ, List.set_cons_zero] <;> rfl))) | (refine Kx.wpList_loadg_x HB _ _ rfl _ rfl _ (Try.isAgg3 _) _ rfl rfl (Kx.framed ?_ (by simp only [Act.put, List.setIfInBounds_toArray, List.set_cons_succ, List.set_cons_zero] <;> rfl))) | (refine Kx.wpList_loadga_x HB _ _ rfl _ rfl _ _ (Try.isAgg23 _) (Try.sizeOf23 _) _ (by simp <;> rfl) (by rfl) rfl (Kx.framed ?_ (by simp only [Act.put, List.setIfInBounds_toArray, List.set_cons_succ, List.set_cons_zero] <;> rfl)))) | ((with_reducible refine Kx.store_gate ?_); first | (refine Kx.wpList_storewa_x HB rfl rfl _ _ _ rfl _ rfl _ rfl _ (by rfl) (by simp <;> rfl) (by rfl) ?_; clear HB; intro w_ HB) | (refine Kx.wpList_storea_x HB rfl rfl _ _ _ rfl _ rfl _ rfl _ _ (by simp [Kx.splice] <;> rfl) (by decide) (by simp <;> rfl) (by rfl) ?_; clear HB; intro w_ HB) | (refine Kx.wpList_storet_x HB rfl rfl _ _ _ rfl _ rfl _ rfl rfl _ _ (by simp <;> rfl) (by simp) (by simp <;> rfl) ?_; clear HB; intro w_ HB) | (refine Kx.wpList_store1_x HB rfl rfl _ _ _ rfl _ rfl _ rfl rfl _ _ (by simp <;> rfl) (by simp) (by simp <;> rfl) ?_; clear HB; intro w_ HB))))
      refine Kx.region_x HB (fun i => false) (by kernel_rfl) ?_
      refine anyW_take (i := 0) (v := ?v0_1) (a' := ?a0_1) (by first | exact Kx.bears_x | assumption) rfl (by kernel_rfl) (by kernel_rfl) (by kernel_rfl) (fun _ _ _ h => h) (by kernel_rfl) ?w0_1 ?y0_1 ?f0_1 ?r0_1
      case w0_1 => kernel_rfl
      case y0_1 => (intro w hC; go_simp; try with_reducible rfl)
      case f0_1 => (go_simp; try with_reducible rfl)
      refine anyW_take (i := 1) (v := ?v1_2) (a' := ?a1_2) (by first | exact Kx.bears_x | assumption) rfl (by kernel_rfl) (by kernel_rfl) (by kernel_rfl) (fun _ _ _ h => h) (by kernel_rfl) ?w1_2 ?y1_2 ?f1_2 ?r1_2
      case w1_2 => kernel_rfl
      case y1_2 => (intro w hC; go_simp; try with_reducible rfl)
      case f1_2 => (go_simp; try with_reducible rfl)
      refine anyW_take (i := 2) (v := ?v2_3) (a' := ?a2_3) (by first | exact Kx.bears_x | assumption) rfl (by kernel_rfl) (by kernel_rfl) (by kernel_rfl) (fun _ _ _ h => h) (by kernel_rfl) ?w2_3 ?y2_3 ?f2_3 ?r2_3
      case w2_3 => kernel_rfl
      case y2_3 => (intro W hW; first | (refine Eq.trans (Kx.tells_load1_x hW _ _ rfl _ inferInstance (Try.isAgg4 _) rfl) ?_; with_reducible rfl) | (refine Eq.trans (Kx.tells_load1_x hW _ _ rfl _ inferInstance (Try.isAgg3 _) rfl) ?_; with_reducible rfl) | (refine Eq.trans (Kx.tells_old_x hW _ rfl (Try.isAgg4 _) HC.out) ?_; with_reducible rfl) | (refine Eq.trans (Kx.tells_old_x hW _ rfl (Try.isAgg3 _) HC.out) ?_; with_reducible rfl) | (refine Eq.trans (Kx.tells_load_x hW _ _ rfl _ inferInstance _ (Try.isAgg23 _) (Try.sizeOf23 _) _ (by simp <;> rfl) (by rfl) rfl) ?_; with_reducible rfl))
      case f2_3 => (go_simp; try with_reducible rfl)
      refine anyW_take (i := 3) (v := ?v3_4) (a' := ?a3_4) (by first | exact Kx.bears_x | assumption) rfl (by kernel_rfl) (by kernel_rfl) (by kernel_rfl) (fun _ _ _ h => h) (by kernel_rfl) ?w3_4 ?y3_4 ?f3_4 ?r3_4
      case w3_4 => kernel_rfl
      case y3_4 => (intro w hC; go_simp; try with_reducible rfl)
      case f3_4 => (go_simp; try with_reducible rfl)
      refine anyW_take (i := 4) (v := ?v4_5) (a' := ?a4_5) (by first | exact Kx.bears_x | assumption) rfl (by kernel_rfl) (by kernel_rfl) (by kernel_rfl) (fun _ _ _ h => h) (by kernel_rfl) ?w4_5 ?y4_5 ?f4_5 ?r4_5
      case w4_5 => kernel_rfl
      case y4_5 => (intro w hC; go_simp; try with_reducible rfl)
      case f4_5 => (go_simp; try with_reducible rfl)
      refine anyW_take (i := 5) (v := ?v5_6) (a' := ?a5_6) (by first | exact Kx.bears_x | assumption) rfl (by kernel_rfl) (by kernel_rfl) (by kernel_rfl) (fun _ _ _ h => h) (by kernel_rfl) ?w5_6 ?y5_6 ?f5_6 ?r5_6
      case w5_6 => kernel_rfl
      case y5_6 => (intro w hC; go_simp; try with_reducible rfl)
      case f5_6 => (go_simp; try with_reducible rfl)
      refine anyW_take (i := 6) (v := ?v6_7) (a' := ?a6_7) (by first | exact Kx.bears_x | assumption) rfl (by kernel_rfl) (by kernel_rfl) (by kernel_rfl) (fun _ _ _ h => h) (by kernel_rfl) ?w6_7 ?y6_7 ?f6_7 ?r6_7
      case w6_7 => kernel_rfl
      case y6_7 => (intro w hC; go_simp; try with_reducible rfl)
      case f6_7 => (go_simp; try with_reducible rfl)
      refine anyW_skip (i := 7) (a' := ?a7_8) (by first | exact Kx.bears_x | assumption) rfl (by kernel_rfl) (by kernel_rfl) (by kernel_rfl) (fun _ _ _ h => h) (by kernel_rfl) (by kernel_rfl) ?f7_8 ?r7_8
      case f7_8 => (go_simp; try with_reducible rfl)
      refine anyW_skip (i := 8) (a' := ?a8_9) (by first | exact Kx.bears_x | assumption) rfl (by kernel_rfl) (by kernel_rfl) (by kernel_rfl) (fun _ _ _ h => h) (by kernel_rfl) (by kernel_rfl) ?f8_9 ?r8_9
      case f8_9 => (go_simp; try with_reducible rfl)
      refine anyW_skip (i := 9) (a' := ?a9_10) (by first | exact Kx.bears_x | assumption) rfl (by kernel_rfl) (by kernel_rfl) (by kernel_rfl) (fun _ _ _ h => h) (by kernel_rfl) (by kernel_rfl) ?f9_10 ?r9_10
      case f9_10 => (go_simp; try with_reducible rfl)
      refine anyW_take (i := 10) (v := ?v10_11) (a' := ?a10_11) (by first | exact Kx.bears_x | assumption) rfl (by kernel_rfl) (by kernel_rfl) (by kernel_rfl) (fun _ _ _ h => h) (by kernel_rfl) ?w10_11 ?y10_11 ?f10_11 ?r10_11
      case w10_11 => kernel_rfl
      case y10_11 => (intro w hC; go_simp; try with_reducible rfl)
      case f10_11 => (go_simp; try with_reducible rfl)
      refine anyW_take (i := 11) (v := ?v11_12) (a' := ?a11_12) (by first | exact Kx.bears_x | assumption) rfl (by kernel_rfl) (by kernel_rfl) (by kernel_rfl) (fun _ _ _ h => h) (by kernel_rfl) ?w11_12 ?y11_12 ?f11_12 ?r11_12
      case w11_12 => kernel_rfl
      case y11_12 => (intro w hC; go_simp; try with_reducible rfl)
      case f11_12 => (go_simp; try with_reducible rfl)
      refine anyW_take (i := 12) (v := ?v12_13) (a' := ?a12_13) (by first | exact Kx.bears_x | assumption) rfl (by kernel_rfl) (by kernel_rfl) (by kernel_rfl) (fun _ _ _ h => h) (by kernel_rfl) ?w12_13 ?y12_13 ?f12_13 ?r12_13
      case w12_13 => kernel_rfl
      case y12_13 => (intro w hC; go_simp; try with_reducible rfl)
      case f12_13 => (go_simp; try with_reducible rfl)
      refine anyW_call (i := 13) (v := ?v13_14) (f := ?g13_14) (args := ?s13_14) (a' := ?a13_14) (by first | exact Kx.bears_x | assumption) rfl (by kernel_rfl) (by kernel_rfl) (by kernel_rfl) (fun _ _ _ h => h) (by kernel_rfl) ?c13_14 ?w13_14 ?y13_14 ?f13_14 ?r13_14
      case w13_14 => kernel_rfl
      case y13_14 => (intro W hW; go_simp; first | (refine ⟨?_, ?_⟩ <;> with_reducible rfl) | with_reducible rfl)
      case c13_14 => (intro W hW; refine Calls.mono (Next_any _ _ _ _ _ _) ?_; rintro e w_ ⟨rfl, hb_⟩; refine ⟨?_, by first | exact hb_ | exact hb_ ▸ Below.refl _ _⟩; with_reducible rfl)
      case f13_14 => (go_simp; try with_reducible rfl)
      refine anyW_take (i := 14) (v := ?v14_15) (a' := ?a14_15) (by first | exact Kx.bears_x | assumption) rfl (by kernel_rfl) (by kernel_rfl) (by kernel_rfl) (fun _ _ _ h => h) (by kernel_rfl) ?w14_15 ?y14_15 ?f14_15 ?r14_15
      case w14_15 => kernel_rfl
      case y14_15 => (intro W hW; first | (refine Eq.trans (Kx.tells_load1_x hW _ _ rfl _ inferInstance (Try.isAgg4 _) rfl) ?_; with_reducible rfl) | (refine Eq.trans (Kx.tells_load1_x hW _ _ rfl _ inferInstance (Try.isAgg3 _) rfl) ?_; with_reducible rfl) | (refine Eq.trans (Kx.tells_old_x hW _ rfl (Try.isAgg4 _) HC.out) ?_; with_reducible rfl) | (refine Eq.trans (Kx.tells_old_x hW _ rfl (Try.isAgg3 _) HC.out) ?_; with_reducible rfl) | (refine Eq.trans (Kx.tells_load_x hW _ _ rfl _ inferInstance _ (Try.isAgg23 _) (Try.sizeOf23 _) _ (by simp <;> rfl) (by rfl) rfl) ?_; with_reducible rfl))
      case f14_15 => (go_simp; try with_reducible rfl)
      refine anyW_take (i := 15) (v := ?v15_16) (a' := ?a15_16) (by first | exact Kx.bears_x | assumption) rfl (by kernel_rfl) (by kernel_rfl) (by kernel_rfl) (fun _ _ _ h => h) (by kernel_rfl) ?w15_16 ?y15_16 ?f15_16 ?r15_16
      case w15_16 => kernel_rfl
      case y15_16 => (intro w hC; go_simp; try with_reducible rfl)
      case f15_16 => (go_simp; try with_reducible rfl)
      refine anyW_take (i := 16) (v := ?v16_17) (a' := ?a16_17) (by first | exact Kx.bears_x | assumption) rfl (by kernel_rfl) (by kernel_rfl) (by kernel_rfl) (fun _ _ _ h => h) (by kernel_rfl) ?w16_17 ?y16_17 ?f16_17 ?r16_17
      case w16_17 => kernel_rfl
      case y16_17 => (intro w hC; go_simp; try with_reducible rfl)
      case f16_17 => (go_simp; try with_reducible rfl)
      refine anyW_take (i := 17) (v := ?v17_18) (a' := ?a17_18) (by first | exact Kx.bears_x | assumption) rfl (by kernel_rfl) (by kernel_rfl) (by kernel_rfl) (fun _ _ _ h => h) (by kernel_rfl) ?w17_18 ?y17_18 ?f17_18 ?r17_18
      case w17_18 => kernel_rfl
      case y17_18 => (intro w hC; go_simp; try with_reducible rfl)
      case f17_18 => (go_simp; try with_reducible rfl)
      refine anyW_take (i := 18) (v := ?v18_19) (a' := ?a18_19) (by first | exact Kx.bears_x | assumption) rfl (by kernel_rfl) (by kernel_rfl) (by kernel_rfl) (fun _ _ _ h => h) (by kernel_rfl) ?w18_19 ?y18_19 ?f18_19 ?r18_19
      case w18_19 => kernel_rfl
      case y18_19 => (intro w hC; go_simp; try with_reducible rfl)
      case f18_19 => (go_simp; try with_reducible rfl)
      refine anyW_skip (i := 19) (a' := ?a19_20) (by first | exact Kx.bears_x | assumption) rfl (by kernel_rfl) (by kernel_rfl) (by kernel_rfl) (fun _ _ _ h => h) (by kernel_rfl) (by kernel_rfl) ?f19_20 ?r19_20
      case f19_20 => (go_simp; try with_reducible rfl)
      refine anyW_skip (i := 20) (a' := ?a20_21) (by first | exact Kx.bears_x | assumption) rfl (by kernel_rfl) (by kernel_rfl) (by kernel_rfl) (fun _ _ _ h => h) (by kernel_rfl) (by kernel_rfl) ?f20_21 ?r20_21
      case f20_21 => (go_simp; try with_reducible rfl)
      refine anyW_skip (i := 21) (a' := ?a21_22) (by first | exact Kx.bears_x | assumption) rfl (by kernel_rfl) (by kernel_rfl) (by kernel_rfl) (fun _ _ _ h => h) (by kernel_rfl) (by kernel_rfl) ?f21_22 ?r21_22
      case f21_22 => (go_simp; try with_reducible rfl)
      refine anyW_take (i := 22) (v := ?v22_23) (a' := ?a22_23) (by first | exact Kx.bears_x | assumption) rfl (by kernel_rfl) (by kernel_rfl) (by kernel_rfl) (fun _ _ _ h => h) (by kernel_rfl) ?w22_23 ?y22_23 ?f22_23 ?r22_23
      case w22_23 => kernel_rfl
      case y22_23 => (intro w hC; go_simp; try with_reducible rfl)
      case f22_23 => (go_simp; try with_reducible rfl)
      refine anyW_take (i := 23) (v := ?v23_24) (a' := ?a23_24) (by first | exact Kx.bears_x | assumption) rfl (by kernel_rfl) (by kernel_rfl) (by kernel_rfl) (fun _ _ _ h => h) (by kernel_rfl) ?w23_24 ?y23_24 ?f23_24 ?r23_24
      case w23_24 => kernel_rfl
      case y23_24 => (intro w hC; go_simp; try with_reducible rfl)
      case f23_24 => (go_simp; try with_reducible rfl)
      refine anyW_take (i := 24) (v := ?v24_25) (a' := ?a24_25) (by first | exact Kx.bears_x | assumption) rfl (by kernel_rfl) (by kernel_rfl) (by kernel_rfl) (fun _ _ _ h => h) (by kernel_rfl) ?w24_25 ?y24_25 ?f24_25 ?r24_25
      case w24_25 => kernel_rfl
      case y24_25 => (intro w hC; go_simp; try with_reducible rfl)
      case f24_25 => (go_simp; try with_reducible rfl)
      refine anyW_call (i := 25) (v := ?v25_26) (f := ?g25_26) (args := ?s25_26) (a' := ?a25_26) (by first | exact Kx.bears_x | assumption) rfl (by kernel_rfl) (by kernel_rfl) (by kernel_rfl) (fun _ _ _ h => h) (by kernel_rfl) ?c25_26 ?w25_26 ?y25_26 ?f25_26 ?r25_26
      case w25_26 => kernel_rfl
      case y25_26 => (intro W hW; go_simp; first | (refine ⟨?_, ?_⟩ <;> with_reducible rfl) | with_reducible rfl)
      case c25_26 => (intro W hW; refine Calls.mono (RNext_any _ _ _ _ _ _) ?_; rintro e w_ ⟨rfl, hb_⟩; refine ⟨?_, by first | exact hb_ | exact hb_ ▸ Below.refl _ _⟩; with_reducible rfl)
      case f25_26 => (go_simp; try with_reducible rfl)
      refine anyW_call (i := 26) (v := ?v26_27) (f := ?g26_27) (args := ?s26_27) (a' := ?a26_27) (by first | exact Kx.bears_x | assumption) rfl (by kernel_rfl) (by kernel_rfl) (by kernel_rfl) (fun _ _ _ h => h) (by kernel_rfl) ?c26_27 ?w26_27 ?y26_27 ?f26_27 ?r26_27
      case w26_27 => kernel_rfl
      case y26_27 => (intro W hW; go_simp; first | (refine ⟨?_, ?_⟩ <;> with_reducible rfl) | with_reducible rfl)
      case c26_27 => (intro W hW; refine Calls.mono (Same_any _ _ _ _ _) ?_; rintro e w_ ⟨rfl, hb_⟩; refine ⟨?_, by first | exact hb_ | exact hb_ ▸ Below.refl _ _⟩; with_reducible rfl)
      case f26_27 => (go_simp; try with_reducible rfl)
      refine anyW_take (i := 27) (v := ?v27_28) (a' := ?a27_28) (by first | exact Kx.bears_x | assumption) rfl (by kernel_rfl) (by kernel_rfl) (by kernel_rfl) (fun _ _ _ h => h) (by kernel_rfl) ?w27_28 ?y27_28 ?f27_28 ?r27_28
      case w27_28 => kernel_rfl
      case y27_28 => (intro w hC; go_simp; try with_reducible rfl)
      case f27_28 => (go_simp; try with_reducible rfl)
      refine anyW_take (i := 28) (v := ?v28_29) (a' := ?a28_29) (by first | exact Kx.bears_x | assumption) rfl (by kernel_rfl) (by kernel_rfl) (by kernel_rfl) (fun _ _ _ h => h) (by kernel_rfl) ?w28_29 ?y28_29 ?f28_29 ?r28_29
      case w28_29 => kernel_rfl
      case y28_29 => (intro w hC; go_simp; try with_reducible rfl)
      case f28_29 => (go_simp; try with_reducible rfl)
      refine anyW_take (i := 29) (v := ?v29_30) (a' := ?a29_30) (by first | exact Kx.bears_x | assumption) rfl (by kernel_rfl) (by kernel_rfl) (by kernel_rfl) (fun _ _ _ h => h) (by kernel_rfl) ?w29_30 ?y29_30 ?f29_30 ?r29_30
      case w29_30 => kernel_rfl
      case y29_30 => (intro W hW; first | (refine Eq.trans (Kx.tells_load1_x hW _ _ rfl _ inferInstance (Try.isAgg4 _) rfl) ?_; with_reducible rfl) | (refine Eq.trans (Kx.tells_load1_x hW _ _ rfl _ inferInstance (Try.isAgg3 _) rfl) ?_; with_reducible rfl) | (refine Eq.trans (Kx.tells_old_x hW _ rfl (Try.isAgg4 _) HC.out) ?_; with_reducible rfl) | (refine Eq.trans (Kx.tells_old_x hW _ rfl (Try.isAgg3 _) HC.out) ?_; with_reducible rfl) | (refine Eq.trans (Kx.tells_load_x hW _ _ rfl _ inferInstance _ (Try.isAgg23 _) (Try.sizeOf23 _) _ (by simp <;> rfl) (by rfl) rfl) ?_; with_reducible rfl))
      case f29_30 => (go_simp; try with_reducible rfl)
      refine anyW_take (i := 30) (v := ?v30_31) (a' := ?a30_31) (by first | exact Kx.bears_x | assumption) rfl (by kernel_rfl) (by kernel_rfl) (by kernel_rfl) (fun _ _ _ h => h) (by kernel_rfl) ?w30_31 ?y30_31 ?f30_31 ?r30_31
      case w30_31 => kernel_rfl
      case y30_31 => (intro w hC; go_simp; try with_reducible rfl)
      case f30_31 => (go_simp; try with_reducible rfl)
      refine anyW_take (i := 31) (v := ?v31_32) (a' := ?a31_32) (by first | exact Kx.bears_x | assumption) rfl (by kernel_rfl) (by kernel_rfl) (by kernel_rfl) (fun _ _ _ h => h) (by kernel_rfl) ?w31_32 ?y31_32 ?f31_32 ?r31_32
      case w31_32 => kernel_rfl
      case y31_32 => (intro w hC; go_simp; try with_reducible rfl)
      case f31_32 => (go_simp; try with_reducible rfl)
      refine anyW_take (i := 32) (v := ?v32_33) (a' := ?a32_33) (by first | exact Kx.bears_x | assumption) rfl (by kernel_rfl) (by kernel_rfl) (by kernel_rfl) (fun _ _ _ h => h) (by kernel_rfl) ?w32_33 ?y32_33 ?f32_33 ?r32_33
      case w32_33 => kernel_rfl
      case y32_33 => (intro w hC; go_simp; try with_reducible rfl)
      case f32_33 => (go_simp; try with_reducible rfl)
      refine anyW_call (i := 33) (v := ?v33_34) (f := ?g33_34) (args := ?s33_34) (a' := ?a33_34) (by first | exact Kx.bears_x | assumption) rfl (by kernel_rfl) (by kernel_rfl) (by kernel_rfl) (fun _ _ _ h => h) (by kernel_rfl) ?c33_34 ?w33_34 ?y33_34 ?f33_34 ?r33_34
      case w33_34 => kernel_rfl
      case y33_34 => (intro W hW; go_simp; first | (refine ⟨?_, ?_⟩ <;> with_reducible rfl) | with_reducible rfl)
      case c33_34 => (intro W hW; refine Calls.mono (All_any h _ _ _ _ l _ _ _ (HR.out.below hW.below) HN.out (by omega)) ?_; rintro e w_ ⟨rfl, hb_⟩; refine ⟨?_, by first | exact hb_ | exact hb_ ▸ Below.refl _ _⟩; with_reducible rfl)
      case f33_34 => (go_simp; try with_reducible rfl)
      refine anyW_take (i := 34) (v := ?v34_35) (a' := ?a34_35) (by first | exact Kx.bears_x | assumption) rfl (by kernel_rfl) (by kernel_rfl) (by kernel_rfl) (fun _ _ _ h => h) (by kernel_rfl) ?w34_35 ?y34_35 ?f34_35 ?r34_35
      case w34_35 => kernel_rfl
      case y34_35 => (intro W hW; first | (refine Eq.trans (Kx.tells_load1_x hW _ _ rfl _ inferInstance (Try.isAgg4 _) rfl) ?_; with_reducible rfl) | (refine Eq.trans (Kx.tells_load1_x hW _ _ rfl _ inferInstance (Try.isAgg3 _) rfl) ?_; with_reducible rfl) | (refine Eq.trans (Kx.tells_old_x hW _ rfl (Try.isAgg4 _) HC.out) ?_; with_reducible rfl) | (refine Eq.trans (Kx.tells_old_x hW _ rfl (Try.isAgg3 _) HC.out) ?_; with_reducible rfl) | (refine Eq.trans (Kx.tells_load_x hW _ _ rfl _ inferInstance _ (Try.isAgg23 _) (Try.sizeOf23 _) _ (by simp <;> rfl) (by rfl) rfl) ?_; with_reducible rfl))
      case f34_35 => (go_simp; try with_reducible rfl)
      refine anyW_take (i := 35) (v := ?v35_36) (a' := ?a35_36) (by first | exact Kx.bears_x | assumption) rfl (by kernel_rfl) (by kernel_rfl) (by kernel_rfl) (fun _ _ _ h => h) (by kernel_rfl) ?w35_36 ?y35_36 ?f35_36 ?r35_36
      case w35_36 => kernel_rfl
      case y35_36 => (intro w hC; go_simp; try with_reducible rfl)
      case f35_36 => (go_simp; try with_reducible rfl)
      refine anyW_take (i := 36) (v := ?v36_37) (a' := ?a36_37) (by first | exact Kx.bears_x | assumption) rfl (by kernel_rfl) (by kernel_rfl) (by kernel_rfl) (fun _ _ _ h => h) (by kernel_rfl) ?w36_37 ?y36_37 ?f36_37 ?r36_37
      case w36_37 => kernel_rfl
      case y36_37 => (intro w hC; go_simp; try with_reducible rfl)
      case f36_37 => (go_simp; try with_reducible rfl)
      refine anyW_take (i := 37) (v := ?v37_38) (a' := ?a37_38) (by first | exact Kx.bears_x | assumption) rfl (by kernel_rfl) (by kernel_rfl) (by kernel_rfl) (fun _ _ _ h => h) (by kernel_rfl) ?w37_38 ?y37_38 ?f37_38 ?r37_38
      case w37_38 => kernel_rfl
      case y37_38 => (intro w hC; go_simp; try with_reducible rfl)
      case f37_38 => (go_simp; try with_reducible rfl)
      refine anyW_call (i := 38) (v := ?v38_39) (f := ?g38_39) (args := ?s38_39) (a' := ?a38_39) (by first | exact Kx.bears_x | assumption) rfl (by kernel_rfl) (by kernel_rfl) (by kernel_rfl) (fun _ _ _ h => h) (by kernel_rfl) ?c38_39 ?w38_39 ?y38_39 ?f38_39 ?r38_39
      case w38_39 => kernel_rfl
      case y38_39 => (intro W hW; go_simp; first | (refine ⟨?_, ?_⟩ <;> with_reducible rfl) | with_reducible rfl)
      case c38_39 => (intro W hW; refine Calls.mono (RAll_any h _ _ _ _ l _ _ _ (HR.out.below hW.below) HN.out (by omega)) ?_; rintro e w_ ⟨rfl, hb_⟩; refine ⟨?_, by first | exact hb_ | exact hb_ ▸ Below.refl _ _⟩; with_reducible rfl)
      case f38_39 => (go_simp; try with_reducible rfl)
      refine anyW_call (i := 39) (v := ?v39_40) (f := ?g39_40) (args := ?s39_40) (a' := ?a39_40) (by first | exact Kx.bears_x | assumption) rfl (by kernel_rfl) (by kernel_rfl) (by kernel_rfl) (fun _ _ _ h => h) (by kernel_rfl) ?c39_40 ?w39_40 ?y39_40 ?f39_40 ?r39_40
      case w39_40 => kernel_rfl
      case y39_40 => (intro W hW; go_simp; first | (refine ⟨?_, ?_⟩ <;> with_reducible rfl) | with_reducible rfl)
      case c39_40 => (intro W hW; refine Calls.mono (Same_any _ _ _ _ _) ?_; rintro e w_ ⟨rfl, hb_⟩; refine ⟨?_, by first | exact hb_ | exact hb_ ▸ Below.refl _ _⟩; with_reducible rfl)
      case f39_40 => (go_simp; try with_reducible rfl)
      refine anyW_take (i := 40) (v := ?v40_41) (a' := ?a40_41) (by first | exact Kx.bears_x | assumption) rfl (by kernel_rfl) (by kernel_rfl) (by kernel_rfl) (fun _ _ _ h => h) (by kernel_rfl) ?w40_41 ?y40_41 ?f40_41 ?r40_41
      case w40_41 => kernel_rfl
      case y40_41 => (intro w hC; go_simp; try with_reducible rfl)
      case f40_41 => (go_simp; try with_reducible rfl)
      refine anyW_take (i := 41) (v := ?v41_42) (a' := ?a41_42) (by first | exact Kx.bears_x | assumption) rfl (by kernel_rfl) (by kernel_rfl) (by kernel_rfl) (fun _ _ _ h => h) (by kernel_rfl) ?w41_42 ?y41_42 ?f41_42 ?r41_42
      case w41_42 => kernel_rfl
      case y41_42 => (intro w hC; go_simp; try with_reducible rfl)
      case f41_42 => (go_simp; try with_reducible rfl)
      refine anyW_done (by kernel_rfl) ?_
      clear HB
      intro w_ HB_
      have HB := Lib.hid HB_
      clear HB_
      go_wp2
      go_ret
      exact ⟨by simp, HB.out.below⟩
    · obtain ⟨g, hg0⟩ : ∃ g, l[0]? = some g := ⟨l[0]'(by rw [HN.out]; omega), List.getElem?_eq_getElem _⟩
      obtain ⟨ad, rfl, hc⟩ := HR.out.bit hg0
      rw [Addr.add_zero'] at hc
      have HC := Lib.hid hc
      have d2 : (0 : Int) < (len1 : Int) := by omega
      have d3 : 0 < len1 := by omega
      clear hc hg0
      go_enter Try.func3, Try.ntmps3
      go_wp2_with (first | (go_at_call 8; refine Calls.mono (head_any _) ?_; rintro e w_ ⟨rfl, hb_⟩; replace HB := Lib.hid (HB.out.call hb_); clear hb_) | (first | ((with_reducible refine Kx.absorb HB ?_); clear HB; intro w_ HB) | ((with_reducible refine Kx.box_gate (d := some 4) ?_); first | (refine Kx.wpList_boxa_x HB rfl _ _ rfl _ rfl ?_; clear HB; intro b4 w_ HB; refine Kx.framed ?_ (by simp only [Act.put, List.setIfInBounds_toArray, List.set_cons_succ, List.set_cons_zero] <;> rfl)) | (refine Kx.wpList_boxt_x HB rfl _ _ rfl _ rfl rfl ?_; clear HB; intro b4 w_ HB; refine Kx.framed ?_ (by simp only [Act.put, List.setIfInBounds_toArray, List.set_cons_succ, List.set_cons_zero] <;> rfl)) | (refine Kx.wpList_box1_x HB rfl _ _ rfl _ rfl rfl ?_; clear HB; intro b4 w_ HB; refine Kx.framed ?_ (by simp only [Act.put, List.setIfInBounds_toArray, List.set_cons_succ, List.set_cons_zero] <;> rfl))) | ((with_reducible refine Kx.alloc_gate (d := some 4) ?_); first | (refine Kx.wpList_alloca_x HB rfl _ rfl _ (Try.zeroValue23 _) ?_; clear HB; intro b4 w_ HB; refine Kx.framed ?_ (by simp only [Act.put, List.setIfInBounds_toArray, List.set_cons_succ, List.set_cons_zero] <;> rfl)) | (refine Kx.wpList_alloc1_x HB rfl _ rfl _ (Try.zeroValue4 _) rfl ?_; clear HB; intro b4 w_ HB; refine Kx.framed ?_ (by simp only [Act.put, List.setIfInBounds_toArray, List.set_cons_succ, List.set_cons_zero] <;> rfl)) | (refine Kx.wpList_alloc1_x HB rfl _ rfl _ (Try.zeroValue3 _) rfl ?_; clear HB; intro b4 w_ HB; refine Kx.framed ?_ (by simp only [Act.put, List.setIfInBounds_toArray, List.set_cons_succ, List.set_cons_zero] <;> rfl))) | ((with_reducible refine Kx.box_gate ?_); first | (refine Kx.wpList_boxa_x HB rfl _ _ rfl _ rfl ?_; clear HB; intro b_ w_ HB; refine Kx.framed ?_ (by simp only [Act.put, List.setIfInBounds_toArray, List.set_cons_succ, List.set_cons_zero] <;> rfl)) | (refine Kx.wpList_boxt_x HB rfl _ _ rfl _ rfl rfl ?_; clear HB; intro b_ w_ HB; refine Kx.framed ?_ (by simp only [Act.put, List.setIfInBounds_toArray, List.set_cons_succ, List.set_cons_zero] <;> rfl)) | (refine Kx.wpList_box1_x HB rfl _ _ rfl _ rfl rfl ?_; clear HB; intro b_ w_ HB; refine Kx.framed ?_ (by simp only [Act.put, List.setIfInBounds_toArray, List.set_cons_succ, List.set_cons_zero] <;> rfl))) | ((with_reducible refine Kx.alloc_gate ?_); first | (refine Kx.wpList_alloca_x HB rfl _ rfl _ (Try.zeroValue23 _) ?_; clear HB; intro b_ w_ HB; refine Kx.framed ?_ (by simp only [Act.put, List.setIfInBounds_toArray, List.set_cons_succ, List.set_cons_zero] <;> rfl)) | (refine Kx.wpList_alloc1_x HB rfl _ rfl _ (Try.zeroValue4 _) rfl ?_; clear HB; intro b_ w_ HB; refine Kx.framed ?_ (by simp only [Act.put, List.setIfInBounds_toArray, List.set_cons_succ, List.set_cons_zero] <;> rfl)) | (refine Kx.wpList_alloc1_x HB rfl _ rfl _ (Try.zeroValue3 _) rfl ?_; clear HB; intro b_ w_ HB; refine Kx.framed ?_ (by simp only [Act.put, List.setIfInBounds_toArray, List.set_cons_succ, List.set_cons_zero] <;> rfl))) | ((with_reducible refine Kx.loads_gate ?_); first | (refine Kx.wpList_load1_x HB rfl _ _ rfl _ rfl _ (Try.isAgg4 _) _ rfl (Kx.framed ?_ (by simp only [Act.put, List.setIfInBounds_toArray, List.set_cons_succ, List.set_cons_zero] <;> rfl))) | (refine Kx.wpList_load1_x HB rfl _ _ rfl _ rfl _ (Try.isAgg3 _) _ rfl (Kx.framed ?_ (by simp only [Act.put, List.setIfInBounds_toArray, List.set_cons_succ, List.set_cons_zero] <;> rfl))) | (refine Kx.wpList_load_x HB rfl _ _ rfl _ rfl _ _ (Try.isAgg23 _) (Try.sizeOf23 _) _ (by simp <;> rfl) (by rfl) (Kx.framed ?_ (by simp only [Act.put, List.setIfInBounds_toArray, List.set_cons_succ, List.set_cons_zero] <;> rfl))) | (refine Kx.wpList_old_x HB rfl _ _ rfl _ rfl (Try.isAgg4 _) _ HC.out (Kx.framed ?_ (by simp only [Act.put, List.setIfInBounds_toArray, List.set_cons_succ, List.set_cons_zero] <;> rfl))) | (refine Kx.wpList_old_x HB rfl _ _ rfl _ rfl (Try.isAgg3 _) _ HC.out (Kx.framed ?_ (by simp only [Act.put, List.setIfInBounds_toArray, List.set_cons_succ, List.set_cons_zero] <;> rfl)))) | ((with_reducible refine Kx.loadg_gate ?_); first | (refine Kx.wpList_loadg_x HB _ _ rfl _ rfl _ (Try.isAgg4 _) _ rfl rfl (Kx.framed ?_ (by simp only [Act.put, List.setIfInBounds_toArray, List.set_cons_succ, List.set_cons_zero] <;> rfl))) | (refine Kx.wpList_loadg_x HB _ _ rfl _ rfl _ (Try.isAgg3 _) _ rfl rfl (Kx.framed ?_ (by simp only [Act.put, List.setIfInBounds_toArray, List.set_cons_succ, List.set_cons_zero] <;> rfl))) | (refine Kx.wpList_loadga_x HB _ _ rfl _ rfl _ _ (Try.isAgg23 _) (Try.sizeOf23 _) _ (by simp <;> rfl) (by rfl) rfl (Kx.framed ?_ (by simp only [Act.put, List.setIfInBounds_toArray, List.set_cons_succ, List.set_cons_zero] <;> rfl)))) | ((with_reducible refine Kx.store_gate ?_); first | (refine Kx.wpList_storewa_x HB rfl rfl _ _ _ rfl _ rfl _ rfl _ (by rfl) (by simp <;> rfl) (by rfl) ?_; clear HB; intro w_ HB) | (refine Kx.wpList_storea_x HB rfl rfl _ _ _ rfl _ rfl _ rfl _ _ (by simp [Kx.splice] <;> rfl) (by decide) (by simp <;> rfl) (by rfl) ?_; clear HB; intro w_ HB) | (refine Kx.wpList_storet_x HB rfl rfl _ _ _ rfl _ rfl _ rfl rfl _ _ (by simp <;> rfl) (by simp) (by simp <;> rfl) ?_; clear HB; intro w_ HB) | (refine Kx.wpList_store1_x HB rfl rfl _ _ _ rfl _ rfl _ rfl rfl _ _ (by simp <;> rfl) (by simp) (by simp <;> rfl) ?_; clear HB; intro w_ HB))))
      refine Kx.region_x HB (fun i => false) (by kernel_rfl) ?_
      refine anyW_take (i := 0) (v := ?v0_43) (a' := ?a0_43) (by first | exact Kx.bears_x | assumption) rfl (by kernel_rfl) (by kernel_rfl) (by kernel_rfl) (fun _ _ _ h => h) (by kernel_rfl) ?w0_43 ?y0_43 ?f0_43 ?r0_43
      case w0_43 => kernel_rfl
      case y0_43 => (intro w hC; go_simp; try with_reducible rfl)
      case f0_43 => (go_simp; try with_reducible rfl)
      refine anyW_take (i := 1) (v := ?v1_44) (a' := ?a1_44) (by first | exact Kx.bears_x | assumption) rfl (by kernel_rfl) (by kernel_rfl) (by kernel_rfl) (fun _ _ _ h => h) (by kernel_rfl) ?w1_44 ?y1_44 ?f1_44 ?r1_44
      case w1_44 => kernel_rfl
      case y1_44 => (intro w hC; go_simp; try with_reducible rfl)
      case f1_44 => (go_simp; try with_reducible rfl)
      refine anyW_take (i := 2) (v := ?v2_45) (a' := ?a2_45) (by first | exact Kx.bears_x | assumption) rfl (by kernel_rfl) (by kernel_rfl) (by kernel_rfl) (fun _ _ _ h => h) (by kernel_rfl) ?w2_45 ?y2_45 ?f2_45 ?r2_45
      case w2_45 => kernel_rfl
      case y2_45 => (intro W hW; first | (refine Eq.trans (Kx.tells_load1_x hW _ _ rfl _ inferInstance (Try.isAgg4 _) rfl) ?_; with_reducible rfl) | (refine Eq.trans (Kx.tells_load1_x hW _ _ rfl _ inferInstance (Try.isAgg3 _) rfl) ?_; with_reducible rfl) | (refine Eq.trans (Kx.tells_old_x hW _ rfl (Try.isAgg4 _) HC.out) ?_; with_reducible rfl) | (refine Eq.trans (Kx.tells_old_x hW _ rfl (Try.isAgg3 _) HC.out) ?_; with_reducible rfl) | (refine Eq.trans (Kx.tells_load_x hW _ _ rfl _ inferInstance _ (Try.isAgg23 _) (Try.sizeOf23 _) _ (by simp <;> rfl) (by rfl) rfl) ?_; with_reducible rfl))
      case f2_45 => (go_simp; try with_reducible rfl)
      refine anyW_take (i := 3) (v := ?v3_46) (a' := ?a3_46) (by first | exact Kx.bears_x | assumption) rfl (by kernel_rfl) (by kernel_rfl) (by kernel_rfl) (fun _ _ _ h => h) (by kernel_rfl) ?w3_46 ?y3_46 ?f3_46 ?r3_46
      case w3_46 => kernel_rfl
      case y3_46 => (intro w hC; go_simp; try with_reducible rfl)
      case f3_46 => (go_simp; try with_reducible rfl)
      refine anyW_take (i := 4) (v := ?v4_47) (a' := ?a4_47) (by first | exact Kx.bears_x | assumption) rfl (by kernel_rfl) (by kernel_rfl) (by kernel_rfl) (fun _ _ _ h => h) (by kernel_rfl) ?w4_47 ?y4_47 ?f4_47 ?r4_47
      case w4_47 => kernel_rfl
      case y4_47 => (intro w hC; go_simp; try with_reducible rfl)
      case f4_47 => (go_simp; try with_reducible rfl)
      refine anyW_take (i := 5) (v := ?v5_48) (a' := ?a5_48) (by first | exact Kx.bears_x | assumption) rfl (by kernel_rfl) (by kernel_rfl) (by kernel_rfl) (fun _ _ _ h => h) (by kernel_rfl) ?w5_48 ?y5_48 ?f5_48 ?r5_48
      case w5_48 => kernel_rfl
      case y5_48 => (intro w hC; go_simp; try with_reducible rfl)
      case f5_48 => (go_simp; try with_reducible rfl)
      refine anyW_take (i := 6) (v := ?v6_49) (a' := ?a6_49) (by first | exact Kx.bears_x | assumption) rfl (by kernel_rfl) (by kernel_rfl) (by kernel_rfl) (fun _ _ _ h => h) (by kernel_rfl) ?w6_49 ?y6_49 ?f6_49 ?r6_49
      case w6_49 => kernel_rfl
      case y6_49 => (intro w hC; go_simp; try with_reducible rfl)
      case f6_49 => (go_simp; try with_reducible rfl)
      refine anyW_take (i := 7) (v := ?v7_50) (a' := ?a7_50) (by first | exact Kx.bears_x | assumption) rfl (by kernel_rfl) (by kernel_rfl) (by kernel_rfl) (fun _ _ _ h => h) (by kernel_rfl) ?w7_50 ?y7_50 ?f7_50 ?r7_50
      case w7_50 => kernel_rfl
      case y7_50 => (intro w hC; go_simp; try with_reducible rfl)
      case f7_50 => (go_simp; try with_reducible rfl)
      refine anyW_take (i := 8) (v := ?v8_51) (a' := ?a8_51) (by first | exact Kx.bears_x | assumption) rfl (by kernel_rfl) (by kernel_rfl) (by kernel_rfl) (fun _ _ _ h => h) (by kernel_rfl) ?w8_51 ?y8_51 ?f8_51 ?r8_51
      case w8_51 => kernel_rfl
      case y8_51 => (intro w hC; go_simp; try with_reducible rfl)
      case f8_51 => (go_simp; try with_reducible rfl)
      refine anyW_take (i := 9) (v := ?v9_52) (a' := ?a9_52) (by first | exact Kx.bears_x | assumption) rfl (by kernel_rfl) (by kernel_rfl) (by kernel_rfl) (fun _ _ _ h => h) (by kernel_rfl) ?w9_52 ?y9_52 ?f9_52 ?r9_52
      case w9_52 => kernel_rfl
      case y9_52 => (intro W hW; first | (refine Eq.trans (Kx.tells_load1_x hW _ _ rfl _ inferInstance (Try.isAgg4 _) rfl) ?_; with_reducible rfl) | (refine Eq.trans (Kx.tells_load1_x hW _ _ rfl _ inferInstance (Try.isAgg3 _) rfl) ?_; with_reducible rfl) | (refine Eq.trans (Kx.tells_old_x hW _ rfl (Try.isAgg4 _) HC.out) ?_; with_reducible rfl) | (refine Eq.trans (Kx.tells_old_x hW _ rfl (Try.isAgg3 _) HC.out) ?_; with_reducible rfl) | (refine Eq.trans (Kx.tells_load_x hW _ _ rfl _ inferInstance _ (Try.isAgg23 _) (Try.sizeOf23 _) _ (by simp <;> rfl) (by rfl) rfl) ?_; with_reducible rfl))
      case f9_52 => (go_simp; try with_reducible rfl)
      refine anyW_take (i := 10) (v := ?v10_53) (a' := ?a10_53) (by first | exact Kx.bears_x | assumption) rfl (by kernel_rfl) (by kernel_rfl) (by kernel_rfl) (fun _ _ _ h => h) (by kernel_rfl) ?w10_53 ?y10_53 ?f10_53 ?r10_53
      case w10_53 => kernel_rfl
      case y10_53 => (intro w hC; go_simp; try with_reducible rfl)
      case f10_53 => (go_simp; try with_reducible rfl)
      refine anyW_take (i := 11) (v := ?v11_54) (a' := ?a11_54) (by first | exact Kx.bears_x | assumption) rfl (by kernel_rfl) (by kernel_rfl) (by kernel_rfl) (fun _ _ _ h => h) (by kernel_rfl) ?w11_54 ?y11_54 ?f11_54 ?r11_54
      case w11_54 => kernel_rfl
      case y11_54 => (intro w hC; go_simp; try with_reducible rfl)
      case f11_54 => (go_simp; try with_reducible rfl)
      refine anyW_take (i := 12) (v := ?v12_55) (a' := ?a12_55) (by first | exact Kx.bears_x | assumption) rfl (by kernel_rfl) (by kernel_rfl) (by kernel_rfl) (fun _ _ _ h => h) (by kernel_rfl) ?w12_55 ?y12_55 ?f12_55 ?r12_55
      case w12_55 => kernel_rfl
      case y12_55 => (intro w hC; go_simp; try with_reducible rfl)
      case f12_55 => (go_simp; try with_reducible rfl)
      refine anyW_call (i := 13) (v := ?v13_56) (f := ?g13_56) (args := ?s13_56) (a' := ?a13_56) (by first | exact Kx.bears_x | assumption) rfl (by kernel_rfl) (by kernel_rfl) (by kernel_rfl) (fun _ _ _ h => h) (by kernel_rfl) ?c13_56 ?w13_56 ?y13_56 ?f13_56 ?r13_56
      case w13_56 => kernel_rfl
      case y13_56 => (intro W hW; go_simp; first | (refine ⟨?_, ?_⟩ <;> with_reducible rfl) | with_reducible rfl)
      case c13_56 => (intro W hW; refine Calls.mono (Next_any _ _ _ _ _ _) ?_; rintro e w_ ⟨rfl, hb_⟩; refine ⟨?_, by first | exact hb_ | exact hb_ ▸ Below.refl _ _⟩; with_reducible rfl)
      case f13_56 => (go_simp; try with_reducible rfl)
      refine anyW_take (i := 14) (v := ?v14_57) (a' := ?a14_57) (by first | exact Kx.bears_x | assumption) rfl (by kernel_rfl) (by kernel_rfl) (by kernel_rfl) (fun _ _ _ h => h) (by kernel_rfl) ?w14_57 ?y14_57 ?f14_57 ?r14_57
      case w14_57 => kernel_rfl
      case y14_57 => (intro W hW; first | (refine Eq.trans (Kx.tells_load1_x hW _ _ rfl _ inferInstance (Try.isAgg4 _) rfl) ?_; with_reducible rfl) | (refine Eq.trans (Kx.tells_load1_x hW _ _ rfl _ inferInstance (Try.isAgg3 _) rfl) ?_; with_reducible rfl) | (refine Eq.trans (Kx.tells_old_x hW _ rfl (Try.isAgg4 _) HC.out) ?_; with_reducible rfl) | (refine Eq.trans (Kx.tells_old_x hW _ rfl (Try.isAgg3 _) HC.out) ?_; with_reducible rfl) | (refine Eq.trans (Kx.tells_load_x hW _ _ rfl _ inferInstance _ (Try.isAgg23 _) (Try.sizeOf23 _) _ (by simp <;> rfl) (by rfl) rfl) ?_; with_reducible rfl))
      case f14_57 => (go_simp; try with_reducible rfl)
      refine anyW_take (i := 15) (v := ?v15_58) (a' := ?a15_58) (by first | exact Kx.bears_x | assumption) rfl (by kernel_rfl) (by kernel_rfl) (by kernel_rfl) (fun _ _ _ h => h) (by kernel_rfl) ?w15_58 ?y15_58 ?f15_58 ?r15_58
      case w15_58 => kernel_rfl
      case y15_58 => (intro w hC; go_simp; try with_reducible rfl)
      case f15_58 => (go_simp; try with_reducible rfl)
      refine anyW_take (i := 16) (v := ?v16_59) (a' := ?a16_59) (by first | exact Kx.bears_x | assumption) rfl (by kernel_rfl) (by kernel_rfl) (by kernel_rfl) (fun _ _ _ h => h) (by kernel_rfl) ?w16_59 ?y16_59 ?f16_59 ?r16_59
      case w16_59 => kernel_rfl
      case y16_59 => (intro w hC; go_simp; try with_reducible rfl)
      case f16_59 => (go_simp; try with_reducible rfl)
      refine anyW_take (i := 17) (v := ?v17_60) (a' := ?a17_60) (by first | exact Kx.bears_x | assumption) rfl (by kernel_rfl) (by kernel_rfl) (by kernel_rfl) (fun _ _ _ h => h) (by kernel_rfl) ?w17_60 ?y17_60 ?f17_60 ?r17_60
      case w17_60 => kernel_rfl
      case y17_60 => (intro w hC; go_simp; try with_reducible rfl)
      case f17_60 => (go_simp; try with_reducible rfl)
      refine anyW_take (i := 18) (v := ?v18_61) (a' := ?a18_61) (by first | exact Kx.bears_x | assumption) rfl (by kernel_rfl) (by kernel_rfl) (by kernel_rfl) (fun _ _ _ h => h) (by kernel_rfl) ?w18_61 ?y18_61 ?f18_61 ?r18_61
      case w18_61 => kernel_rfl
      case y18_61 => (intro w hC; go_simp; try with_reducible rfl)
      case f18_61 => (go_simp; try with_reducible rfl)
      refine anyW_take (i := 19) (v := ?v19_62) (a' := ?a19_62) (by first | exact Kx.bears_x | assumption) rfl (by kernel_rfl) (by kernel_rfl) (by kernel_rfl) (fun _ _ _ h => h) (by kernel_rfl) ?w19_62 ?y19_62 ?f19_62 ?r19_62
      case w19_62 => kernel_rfl
      case y19_62 => (intro w hC; go_simp; try with_reducible rfl)
      case f19_62 => (go_simp; try with_reducible rfl)
      refine anyW_take (i := 20) (v := ?v20_63) (a' := ?a20_63) (by first | exact Kx.bears_x | assumption) rfl (by kernel_rfl) (by kernel_rfl) (by kernel_rfl) (fun _ _ _ h => h) (by kernel_rfl) ?w20_63 ?y20_63 ?f20_63 ?r20_63
      case w20_63 => kernel_rfl
      case y20_63 => (intro w hC; go_simp; try with_reducible rfl)
      case f20_63 => (go_simp; try with_reducible rfl)
      refine anyW_take (i := 21) (v := ?v21_64) (a' := ?a21_64) (by first | exact Kx.bears_x | assumption) rfl (by kernel_rfl) (by kernel_rfl) (by kernel_rfl) (fun _ _ _ h => h) (by kernel_rfl) ?w21_64 ?y21_64 ?f21_64 ?r21_64
      case w21_64 => kernel_rfl
      case y21_64 => (intro W hW; first | (refine Eq.trans (Kx.tells_load1_x hW _ _ rfl _ inferInstance (Try.isAgg4 _) rfl) ?_; with_reducible rfl) | (refine Eq.trans (Kx.tells_load1_x hW _ _ rfl _ inferInstance (Try.isAgg3 _) rfl) ?_; with_reducible rfl) | (refine Eq.trans (Kx.tells_old_x hW _ rfl (Try.isAgg4 _) HC.out) ?_; with_reducible rfl) | (refine Eq.trans (Kx.tells_old_x hW _ rfl (Try.isAgg3 _) HC.out) ?_; with_reducible rfl) | (refine Eq.trans (Kx.tells_load_x hW _ _ rfl _ inferInstance _ (Try.isAgg23 _) (Try.sizeOf23 _) _ (by simp <;> rfl) (by rfl) rfl) ?_; with_reducible rfl))
      case f21_64 => (go_simp; try with_reducible rfl)
      refine anyW_take (i := 22) (v := ?v22_65) (a' := ?a22_65) (by first | exact Kx.bears_x | assumption) rfl (by kernel_rfl) (by kernel_rfl) (by kernel_rfl) (fun _ _ _ h => h) (by kernel_rfl) ?w22_65 ?y22_65 ?f22_65 ?r22_65
      case w22_65 => kernel_rfl
      case y22_65 => (intro w hC; go_simp; try with_reducible rfl)
      case f22_65 => (go_simp; try with_reducible rfl)
      refine anyW_take (i := 23) (v := ?v23_66) (a' := ?a23_66) (by first | exact Kx.bears_x | assumption) rfl (by kernel_rfl) (by kernel_rfl) (by kernel_rfl) (fun _ _ _ h => h) (by kernel_rfl) ?w23_66 ?y23_66 ?f23_66 ?r23_66
      case w23_66 => kernel_rfl
      case y23_66 => (intro w hC; go_simp; try with_reducible rfl)
      case f23_66 => (go_simp; try with_reducible rfl)
      refine anyW_take (i := 24) (v := ?v24_67) (a' := ?a24_67) (by first | exact Kx.bears_x | assumption) rfl (by kernel_rfl) (by kernel_rfl) (by kernel_rfl) (fun _ _ _ h => h) (by kernel_rfl) ?w24_67 ?y24_67 ?f24_67 ?r24_67
      case w24_67 => kernel_rfl
      case y24_67 => (intro w hC; go_simp; try with_reducible rfl)
      case f24_67 => (go_simp; try with_reducible rfl)
      refine anyW_call (i := 25) (v := ?v25_68) (f := ?g25_68) (args := ?s25_68) (a' := ?a25_68) (by first | exact Kx.bears_x | assumption) rfl (by kernel_rfl) (by kernel_rfl) (by kernel_rfl) (fun _ _ _ h => h) (by kernel_rfl) ?c25_68 ?w25_68 ?y25_68 ?f25_68 ?r25_68
      case w25_68 => kernel_rfl
      case y25_68 => (intro W hW; go_simp; first | (refine ⟨?_, ?_⟩ <;> with_reducible rfl) | with_reducible rfl)
      case c25_68 => (intro W hW; refine Calls.mono (RNext_any _ _ _ _ _ _) ?_; rintro e w_ ⟨rfl, hb_⟩; refine ⟨?_, by first | exact hb_ | exact hb_ ▸ Below.refl _ _⟩; with_reducible rfl)
      case f25_68 => (go_simp; try with_reducible rfl)
      refine anyW_call (i := 26) (v := ?v26_69) (f := ?g26_69) (args := ?s26_69) (a' := ?a26_69) (by first | exact Kx.bears_x | assumption) rfl (by kernel_rfl) (by kernel_rfl) (by kernel_rfl) (fun _ _ _ h => h) (by kernel_rfl) ?c26_69 ?w26_69 ?y26_69 ?f26_69 ?r26_69
      case w26_69 => kernel_rfl
      case y26_69 => (intro W hW; go_simp; first | (refine ⟨?_, ?_⟩ <;> with_reducible rfl) | with_reducible rfl)
      case c26_69 => (intro W hW; refine Calls.mono (Same_any _ _ _ _ _) ?_; rintro e w_ ⟨rfl, hb_⟩; refine ⟨?_, by first | exact hb_ | exact hb_ ▸ Below.refl _ _⟩; with_reducible rfl)
      case f26_69 => (go_simp; try with_reducible rfl)
      refine anyW_take (i := 27) (v := ?v27_70) (a' := ?a27_70) (by first | exact Kx.bears_x | assumption) rfl (by kernel_rfl) (by kernel_rfl) (by kernel_rfl) (fun _ _ _ h => h) (by kernel_rfl) ?w27_70 ?y27_70 ?f27_70 ?r27_70
      case w27_70 => kernel_rfl
      case y27_70 => (intro w hC; go_simp; try with_reducible rfl)
      case f27_70 => (go_simp; try with_reducible rfl)
      refine anyW_take (i := 28) (v := ?v28_71) (a' := ?a28_71) (by first | exact Kx.bears_x | assumption) rfl (by kernel_rfl) (by kernel_rfl) (by kernel_rfl) (fun _ _ _ h => h) (by kernel_rfl) ?w28_71 ?y28_71 ?f28_71 ?r28_71
      case w28_71 => kernel_rfl
      case y28_71 => (intro w hC; go_simp; try with_reducible rfl)
      case f28_71 => (go_simp; try with_reducible rfl)
      refine anyW_take (i := 29) (v := ?v29_72) (a' := ?a29_72) (by first | exact Kx.bears_x | assumption) rfl (by kernel_rfl) (by kernel_rfl) (by kernel_rfl) (fun _ _ _ h => h) (by kernel_rfl) ?w29_72 ?y29_72 ?f29_72 ?r29_72
      case w29_72 => kernel_rfl
      case y29_72 => (intro W hW; first | (refine Eq.trans (Kx.tells_load1_x hW _ _ rfl _ inferInstance (Try.isAgg4 _) rfl) ?_; with_reducible rfl) | (refine Eq.trans (Kx.tells_load1_x hW _ _ rfl _ inferInstance (Try.isAgg3 _) rfl) ?_; with_reducible rfl) | (refine Eq.trans (Kx.tells_old_x hW _ rfl (Try.isAgg4 _) HC.out) ?_; with_reducible rfl) | (refine Eq.trans (Kx.tells_old_x hW _ rfl (Try.isAgg3 _) HC.out) ?_; with_reducible rfl) | (refine Eq.trans (Kx.tells_load_x hW _ _ rfl _ inferInstance _ (Try.isAgg23 _) (Try.sizeOf23 _) _ (by simp <;> rfl) (by rfl) rfl) ?_; with_reducible rfl))
      case f29_72 => (go_simp; try with_reducible rfl)
      refine anyW_take (i := 30) (v := ?v30_73) (a' := ?a30_73) (by first | exact Kx.bears_x | assumption) rfl (by kernel_rfl) (by kernel_rfl) (by kernel_rfl) (fun _ _ _ h => h) (by kernel_rfl) ?w30_73 ?y30_73 ?f30_73 ?r30_73
      case w30_73 => kernel_rfl
      case y30_73 => (intro w hC; go_simp; try with_reducible rfl)
      case f30_73 => (go_simp; try with_reducible rfl)
      refine anyW_take (i := 31) (v := ?v31_74) (a' := ?a31_74) (by first | exact Kx.bears_x | assumption) rfl (by kernel_rfl) (by kernel_rfl) (by kernel_rfl) (fun _ _ _ h => h) (by kernel_rfl) ?w31_74 ?y31_74 ?f31_74 ?r31_74
      case w31_74 => kernel_rfl
      case y31_74 => (intro w hC; go_simp; try with_reducible rfl)
      case f31_74 => (go_simp; try with_reducible rfl)
      refine anyW_take (i := 32) (v := ?v32_75) (a' := ?a32_75) (by first | exact Kx.bears_x | assumption) rfl (by kernel_rfl) (by kernel_rfl) (by kernel_rfl) (fun _ _ _ h => h) (by kernel_rfl) ?w32_75 ?y32_75 ?f32_75 ?r32_75
      case w32_75 => kernel_rfl
      case y32_75 => (intro w hC; go_simp; try with_reducible rfl)
      case f32_75 => (go_simp; try with_reducible rfl)
      refine anyW_call (i := 33) (v := ?v33_76) (f := ?g33_76) (args := ?s33_76) (a' := ?a33_76) (by first | exact Kx.bears_x | assumption) rfl (by kernel_rfl) (by kernel_rfl) (by kernel_rfl) (fun _ _ _ h => h) (by kernel_rfl) ?c33_76 ?w33_76 ?y33_76 ?f33_76 ?r33_76
      case w33_76 => kernel_rfl
      case y33_76 => (intro W hW; go_simp; first | (refine ⟨?_, ?_⟩ <;> with_reducible rfl) | with_reducible rfl)
      case c33_76 => (intro W hW; refine Calls.mono (All_any h _ _ _ _ l _ _ _ (HR.out.below hW.below) HN.out (by omega)) ?_; rintro e w_ ⟨rfl, hb_⟩; refine ⟨?_, by first | exact hb_ | exact hb_ ▸ Below.refl _ _⟩; with_reducible rfl)
      case f33_76 => (go_simp; try with_reducible rfl)
      refine anyW_take (i := 34) (v := ?v34_77) (a' := ?a34_77) (by first | exact Kx.bears_x | assumption) rfl (by kernel_rfl) (by kernel_rfl) (by kernel_rfl) (fun _ _ _ h => h) (by kernel_rfl) ?w34_77 ?y34_77 ?f34_77 ?r34_77
      case w34_77 => kernel_rfl
      case y34_77 => (intro W hW; first | (refine Eq.trans (Kx.tells_load1_x hW _ _ rfl _ inferInstance (Try.isAgg4 _) rfl) ?_; with_reducible rfl) | (refine Eq.trans (Kx.tells_load1_x hW _ _ rfl _ inferInstance (Try.isAgg3 _) rfl) ?_; with_reducible rfl) | (refine Eq.trans (Kx.tells_old_x hW _ rfl (Try.isAgg4 _) HC.out) ?_; with_reducible rfl) | (refine Eq.trans (Kx.tells_old_x hW _ rfl (Try.isAgg3 _) HC.out) ?_; with_reducible rfl) | (refine Eq.trans (Kx.tells_load_x hW _ _ rfl _ inferInstance _ (Try.isAgg23 _) (Try.sizeOf23 _) _ (by simp <;> rfl) (by rfl) rfl) ?_; with_reducible rfl))
      case f34_77 => (go_simp; try with_reducible rfl)
      refine anyW_take (i := 35) (v := ?v35_78) (a' := ?a35_78) (by first | exact Kx.bears_x | assumption) rfl (by kernel_rfl) (by kernel_rfl) (by kernel_rfl) (fun _ _ _ h => h) (by kernel_rfl) ?w35_78 ?y35_78 ?f35_78 ?r35_78
      case w35_78 => kernel_rfl
      case y35_78 => (intro w hC; go_simp; try with_reducible rfl)
      case f35_78 => (go_simp; try with_reducible rfl)
      refine anyW_take (i := 36) (v := ?v36_79) (a' := ?a36_79) (by first | exact Kx.bears_x | assumption) rfl (by kernel_rfl) (by kernel_rfl) (by kernel_rfl) (fun _ _ _ h => h) (by kernel_rfl) ?w36_79 ?y36_79 ?f36_79 ?r36_79
      case w36_79 => kernel_rfl
      case y36_79 => (intro w hC; go_simp; try with_reducible rfl)
      case f36_79 => (go_simp; try with_reducible rfl)
      refine anyW_take (i := 37) (v := ?v37_80) (a' := ?a37_80) (by first | exact Kx.bears_x | assumption) rfl (by kernel_rfl) (by kernel_rfl) (by kernel_rfl) (fun _ _ _ h => h) (by kernel_rfl) ?w37_80 ?y37_80 ?f37_80 ?r37_80
      case w37_80 => kernel_rfl
      case y37_80 => (intro w hC; go_simp; try with_reducible rfl)
      case f37_80 => (go_simp; try with_reducible rfl)
      refine anyW_call (i := 38) (v := ?v38_81) (f := ?g38_81) (args := ?s38_81) (a' := ?a38_81) (by first | exact Kx.bears_x | assumption) rfl (by kernel_rfl) (by kernel_rfl) (by kernel_rfl) (fun _ _ _ h => h) (by kernel_rfl) ?c38_81 ?w38_81 ?y38_81 ?f38_81 ?r38_81
      case w38_81 => kernel_rfl
      case y38_81 => (intro W hW; go_simp; first | (refine ⟨?_, ?_⟩ <;> with_reducible rfl) | with_reducible rfl)
      case c38_81 => (intro W hW; refine Calls.mono (RAll_any h _ _ _ _ l _ _ _ (HR.out.below hW.below) HN.out (by omega)) ?_; rintro e w_ ⟨rfl, hb_⟩; refine ⟨?_, by first | exact hb_ | exact hb_ ▸ Below.refl _ _⟩; with_reducible rfl)
      case f38_81 => (go_simp; try with_reducible rfl)
      refine anyW_call (i := 39) (v := ?v39_82) (f := ?g39_82) (args := ?s39_82) (a' := ?a39_82) (by first | exact Kx.bears_x | assumption) rfl (by kernel_rfl) (by kernel_rfl) (by kernel_rfl) (fun _ _ _ h => h) (by kernel_rfl) ?c39_82 ?w39_82 ?y39_82 ?f39_82 ?r39_82
      case w39_82 => kernel_rfl
      case y39_82 => (intro W hW; go_simp; first | (refine ⟨?_, ?_⟩ <;> with_reducible rfl) | with_reducible rfl)
      case c39_82 => (intro W hW; refine Calls.mono (Same_any _ _ _ _ _) ?_; rintro e w_ ⟨rfl, hb_⟩; refine ⟨?_, by first | exact hb_ | exact hb_ ▸ Below.refl _ _⟩; with_reducible rfl)
      case f39_82 => (go_simp; try with_reducible rfl)
      refine anyW_take (i := 40) (v := ?v40_83) (a' := ?a40_83) (by first | exact Kx.bears_x | assumption) rfl (by kernel_rfl) (by kernel_rfl) (by kernel_rfl) (fun _ _ _ h => h) (by kernel_rfl) ?w40_83 ?y40_83 ?f40_83 ?r40_83
      case w40_83 => kernel_rfl
      case y40_83 => (intro w hC; go_simp; try with_reducible rfl)
      case f40_83 => (go_simp; try with_reducible rfl)
      refine anyW_take (i := 41) (v := ?v41_84) (a' := ?a41_84) (by first | exact Kx.bears_x | assumption) rfl (by kernel_rfl) (by kernel_rfl) (by kernel_rfl) (fun _ _ _ h => h) (by kernel_rfl) ?w41_84 ?y41_84 ?f41_84 ?r41_84
      case w41_84 => kernel_rfl
      case y41_84 => (intro w hC; go_simp; try with_reducible rfl)
      case f41_84 => (go_simp; try with_reducible rfl)
      refine anyW_done (by kernel_rfl) ?_
      clear HB
      intro w_ HB_
      have HB := Lib.hid HB_
      clear HB_
      go_wp2
      go_ret
      exact ⟨by simp, HB.out.below⟩
end Go.Proofs.Ytmblghfjimkegaa
