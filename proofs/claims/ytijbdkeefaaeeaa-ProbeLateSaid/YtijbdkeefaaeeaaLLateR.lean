/- ProbeLate, walked: some cases. -/
import Derived.Test.YtijbdkeefaaeeaaLLate0
namespace Go.Proofs.Ytijbdkeefaaeeaa
open Go.RowKit Go.Shelf Km Kx Kc

set_option maxRecDepth 100000 in
set_option maxHeartbeats 4000000 in
theorem late_run0 (nx : Int) (op : Bool) (nn sc r0 : Int) (e wt n nonce : Int) (w : World) (e0 : 0 ≤ e ∧ e ≤ 255) (w0 : 0 ≤ wt ∧ wt ≤ 255) (n0 : 0 ≤ n ∧ n ≤ 65535) (hr : r0 ≠ 0) (hz : nonce ≠ 0) :
    Calls Try.prog 8 #[.agg #[.int .i64 nx, .bool op, .int .i64 nn, .int .i64 sc, .bool true, .int .i64 r0], .int .u8 e, .int .u8 wt, .int .u16 n, .int .i64 nonce] w fun e w' => e = .returned (.bool true) ∧ Below w.heap.size w w' := by
  obtain ⟨e0, e1⟩ := e0
  obtain ⟨w0, w1⟩ := w0
  obtain ⟨n0, n1⟩ := n0
  have HB := Lib.hid (Bxs.start w)
  have v1 : IntKind.i64.wrap e = e := by rw [IntKind.wrap_i64]; omega
  have v2 : IntKind.i64.wrap (1 + e) = 1 + e := by rw [IntKind.wrap_i64]; omega
  have v3 : IntKind.i64.wrap wt = wt := by rw [IntKind.wrap_i64]; omega
  have v4 : IntKind.i64.wrap (1 + wt) = 1 + wt := by rw [IntKind.wrap_i64]; omega
  have v5 : IntKind.i64.wrap n = n := by rw [IntKind.wrap_i64]; omega
  have v6 : IntKind.i64.wrap (n + (1 + wt)) = n + (1 + wt) := by rw [IntKind.wrap_i64]; omega
  have HT1 : Hid (∀ W, Calls Try.prog 10 #[.agg #[.int .i64 n, .bool false, .int .i64 nn, .int .i64 sc, .bool true, .int .i64 r0], .agg (cf (mk (1 + e) (1 + wt) 2 2)).toArray, .int .i64 n, .int .i64 nonce] W fun e' w' => e' = .returned (.tuple #[.agg #[.int .i64 (Pm.bd (n + Pm.bd (1 + e))), .bool true, .int .i64 nonce, .int .i64 n, .bool true, .int .i64 r0], .bool true]) ∧ Below W.heap.size W w') := Lib.hid fun W => by
    have h := Tick_any ⟨n, false, nn, sc, ⟨true, r0⟩⟩ (mk (1 + e) (1 + wt) 2 2) n nonce W
    dsimp only [mk] at h
    rw [late_first ⟨true, r0⟩ nn sc (1 + e) (1 + wt) n nonce n0 n1] at h
    exact h
  obtain ⟨q, b, hq, hs, ho⟩ := late_second ⟨true, r0⟩ (Pm.bd (n + Pm.bd (1 + e))) (1 + e) (1 + wt) n nonce 0 n0 n1 (by omega) (by omega)
  have HT2 : Hid (∀ W, Calls Try.prog 10 #[.agg #[.int .i64 (Pm.bd (n + Pm.bd (1 + e))), .bool true, .int .i64 nonce, .int .i64 n, .bool true, .int .i64 r0], .agg (cf (mk (1 + e) (1 + wt) 2 2)).toArray, .int .i64 (n + (1 + wt)), .int .i64 0] W fun e' w' => e' = .returned (.tuple #[.agg (pl q).toArray, .bool b]) ∧ Below W.heap.size W w') := Lib.hid fun W => by
    have h := Tick_any ⟨Pm.bd (n + Pm.bd (1 + e)), true, nonce, n, ⟨true, r0⟩⟩ (mk (1 + e) (1 + wt) 2 2) (n + (1 + wt)) 0 W
    dsimp only [mk] at h
    rw [hq] at h
    exact h
  have HA1 : Hid (∀ W, Calls Try.prog 13 #[.agg (pl q).toArray, .agg (cf (mk (1 + e) (1 + wt) 2 2)).toArray, .int .i64 nonce] W fun e' w' => e' = .returned (.agg (pl q).toArray) ∧ Below W.heap.size W w') := Lib.hid fun W => by
    have h := Alive_any q (mk (1 + e) (1 + wt) 2 2) nonce W
    rw [late_third (o := 0) (fun k => (ho k).1) hz] at h
    exact h
  have HA2 : Hid (∀ W, Calls Try.prog 13 #[.agg #[.int .i64 n, .bool false, .int .i64 nn, .int .i64 sc, .bool true, .int .i64 r0], .agg (cf (mk (1 + e) (1 + wt) 2 2)).toArray, .int .i64 nn] W fun e' w' => e' = .returned (.agg #[.int .i64 n, .bool false, .int .i64 nn, .int .i64 sc, .bool true, .int .i64 r0]) ∧ Below W.heap.size W w') := Lib.hid fun W => by
    have h := Alive_any ⟨n, false, nn, sc, ⟨true, r0⟩⟩ (mk (1 + e) (1 + wt) 2 2) nn W
    rw [Pm.alive_shut rfl] at h
    exact h
  have HS : Hid (∀ W, Calls Try.prog 12 #[.agg #[.int .i64 n, .bool false, .int .i64 nn, .int .i64 sc, .bool true, .int .i64 r0], .agg #[.int .i64 n, .bool false, .int .i64 nn, .int .i64 sc, .bool true, .int .i64 r0]] W fun e' w' => e' = .returned (.bool true) ∧ Below W.heap.size W w') := Lib.hid fun W => PSame_self ⟨n, false, nn, sc, ⟨true, r0⟩⟩ W
  have HM := Lib.hid (mk_built (1 + e) (1 + wt) 2 2)
  dsimp only [cf, mk] at HT1 HT2 HA1 HA2
  clear hq
  obtain ⟨qx, qo, qn, qs, ⟨qu, qr⟩⟩ := q
  have d1 : (nonce == 0) = false := by simp [hz]
  have d2 : (r0 == 0) = false := by simp [hr]
  have hob : b = true ∨ (b = false ∧ qo = false) := by cases qo with
    | true => exact .inl (ho rfl).2
    | false => cases b <;> simp
  generalize Pm.bd (n + Pm.bd (1 + e)) = X at *
  have HO := Lib.hid hob
  clear hs ho hob hz hr
  go_enter Try.func8, Try.ntmps8
  go_wp2_with (first | ((with_reducible refine Kx.build_gate ?_); refine Km.wpList_build rfl 28 _ rfl #[(6, .int .i64 (1 + e)), (7, .int .i64 (1 + wt)), (8, .int .i64 2), (9, .int .i64 2)] rfl (cf (mk (1 + e) (1 + wt) 2 2)).toArray (HM.out) ?_; refine Kx.framed ?_ (by simp only [Act.put, List.setIfInBounds_toArray, List.set_cons_succ, List.set_cons_zero] <;> rfl)) | (go_at_call 9; refine Calls.mono (head_any _) ?_; rintro e w_ ⟨rfl, hb_⟩; replace HB := Lib.hid (HB.out.call hb_); clear hb_) | (go_at_call 10; with_reducible refine Kx.args_gate #[_, _, .int .i64 n, _] ?_; refine Calls.mono (HT1.out _) ?_; rintro e w_ ⟨rfl, hb_⟩; replace HB := Lib.hid (HB.out.call hb_); clear hb_) | (go_at_call 10; refine Calls.mono (HT2.out _) ?_; rintro e w_ ⟨rfl, hb_⟩; replace HB := Lib.hid (HB.out.call hb_); clear hb_) | (go_at_call 13; refine Calls.mono (HA1.out _) ?_; rintro e w_ ⟨rfl, hb_⟩; replace HB := Lib.hid (HB.out.call hb_); clear hb_) | (first | ((with_reducible refine Kx.absorb HB ?_); clear HB; intro w_ HB) | ((with_reducible refine Kx.box_gate ?_); first | (refine Kx.wpList_boxa_x HB rfl _ _ rfl _ rfl ?_; clear HB; intro b_ w_ HB; refine Kx.framed ?_ (by simp only [Act.put, List.setIfInBounds_toArray, List.set_cons_succ, List.set_cons_zero] <;> rfl)) | (refine Kx.wpList_boxt_x HB rfl _ _ rfl _ rfl rfl ?_; clear HB; intro b_ w_ HB; refine Kx.framed ?_ (by simp only [Act.put, List.setIfInBounds_toArray, List.set_cons_succ, List.set_cons_zero] <;> rfl)) | (refine Kx.wpList_box1_x HB rfl _ _ rfl _ rfl rfl ?_; clear HB; intro b_ w_ HB; refine Kx.framed ?_ (by simp only [Act.put, List.setIfInBounds_toArray, List.set_cons_succ, List.set_cons_zero] <;> rfl))) | ((with_reducible refine Kx.alloc_gate ?_); first | (refine Kx.wpList_alloca_x HB rfl _ rfl _ (Try.zeroValue25 _) ?_; clear HB; intro b_ w_ HB; refine Kx.framed ?_ (by simp only [Act.put, List.setIfInBounds_toArray, List.set_cons_succ, List.set_cons_zero] <;> rfl)) | (refine Kx.wpList_alloca_x HB rfl _ rfl _ (Try.zeroValue28 _) ?_; clear HB; intro b_ w_ HB; refine Kx.framed ?_ (by simp only [Act.put, List.setIfInBounds_toArray, List.set_cons_succ, List.set_cons_zero] <;> rfl)) | (refine Kx.wpList_alloc1_x HB rfl _ rfl _ (Try.zeroValue4 _) rfl ?_; clear HB; intro b_ w_ HB; refine Kx.framed ?_ (by simp only [Act.put, List.setIfInBounds_toArray, List.set_cons_succ, List.set_cons_zero] <;> rfl)) | (refine Kx.wpList_alloc1_x HB rfl _ rfl _ (Try.zeroValue3 _) rfl ?_; clear HB; intro b_ w_ HB; refine Kx.framed ?_ (by simp only [Act.put, List.setIfInBounds_toArray, List.set_cons_succ, List.set_cons_zero] <;> rfl)) | (refine Kx.wpList_alloc1_x HB rfl _ rfl _ (Try.zeroValue2 _) rfl ?_; clear HB; intro b_ w_ HB; refine Kx.framed ?_ (by simp only [Act.put, List.setIfInBounds_toArray, List.set_cons_succ, List.set_cons_zero] <;> rfl))) | ((with_reducible refine Kx.loads_gate ?_); first | (refine Kx.wpList_load1_x HB rfl _ _ rfl _ rfl _ (Try.isAgg4 _) _ rfl (Kx.framed ?_ (by simp only [Act.put, List.setIfInBounds_toArray, List.set_cons_succ, List.set_cons_zero] <;> rfl))) | (refine Kx.wpList_load1_x HB rfl _ _ rfl _ rfl _ (Try.isAgg3 _) _ rfl (Kx.framed ?_ (by simp only [Act.put, List.setIfInBounds_toArray, List.set_cons_succ, List.set_cons_zero] <;> rfl))) | (refine Kx.wpList_load1_x HB rfl _ _ rfl _ rfl _ (Try.isAgg2 _) _ rfl (Kx.framed ?_ (by simp only [Act.put, List.setIfInBounds_toArray, List.set_cons_succ, List.set_cons_zero] <;> rfl))) | (refine Kx.wpList_load_x HB rfl _ _ rfl _ rfl _ _ (Try.isAgg25 _) (Try.sizeOf25 _) _ (by first | exact Kx.whole (by rfl) | (simp <;> rfl)) (by rfl) (Kx.framed ?_ (by simp only [Act.put, List.setIfInBounds_toArray, List.set_cons_succ, List.set_cons_zero] <;> rfl))) | (refine Kx.wpList_load_x HB rfl _ _ rfl _ rfl _ _ (Try.isAgg28 _) (Try.sizeOf28 _) _ (by first | exact Kx.whole (by rfl) | (simp <;> rfl)) (by rfl) (Kx.framed ?_ (by simp only [Act.put, List.setIfInBounds_toArray, List.set_cons_succ, List.set_cons_zero] <;> rfl))) | (refine Kx.wpList_old_x HB rfl _ _ rfl _ rfl (Try.isAgg4 _) _ HC.out (Kx.framed ?_ (by simp only [Act.put, List.setIfInBounds_toArray, List.set_cons_succ, List.set_cons_zero] <;> rfl))) | (refine Kx.wpList_old_x HB rfl _ _ rfl _ rfl (Try.isAgg3 _) _ HC.out (Kx.framed ?_ (by simp only [Act.put, List.setIfInBounds_toArray, List.set_cons_succ, List.set_cons_zero] <;> rfl))) | (refine Kx.wpList_old_x HB rfl _ _ rfl _ rfl (Try.isAgg2 _) _ HC.out (Kx.framed ?_ (by simp only [Act.put, List.setIfInBounds_toArray, List.set_cons_succ, List.set_cons_zero] <;> rfl)))) | ((with_reducible refine Kx.loadg_gate ?_); first | (refine Kx.wpList_loadg_x HB _ _ rfl _ rfl _ (Try.isAgg4 _) _ rfl rfl (Kx.framed ?_ (by simp only [Act.put, List.setIfInBounds_toArray, List.set_cons_succ, List.set_cons_zero] <;> rfl))) | (refine Kx.wpList_loadg_x HB _ _ rfl _ rfl _ (Try.isAgg3 _) _ rfl rfl (Kx.framed ?_ (by simp only [Act.put, List.setIfInBounds_toArray, List.set_cons_succ, List.set_cons_zero] <;> rfl))) | (refine Kx.wpList_loadg_x HB _ _ rfl _ rfl _ (Try.isAgg2 _) _ rfl rfl (Kx.framed ?_ (by simp only [Act.put, List.setIfInBounds_toArray, List.set_cons_succ, List.set_cons_zero] <;> rfl))) | (refine Kx.wpList_loadga_x HB _ _ rfl _ rfl _ _ (Try.isAgg25 _) (Try.sizeOf25 _) _ (by first | exact Kx.whole (by rfl) | (simp <;> rfl)) (by rfl) rfl (Kx.framed ?_ (by simp only [Act.put, List.setIfInBounds_toArray, List.set_cons_succ, List.set_cons_zero] <;> rfl))) | (refine Kx.wpList_loadga_x HB _ _ rfl _ rfl _ _ (Try.isAgg28 _) (Try.sizeOf28 _) _ (by first | exact Kx.whole (by rfl) | (simp <;> rfl)) (by rfl) rfl (Kx.framed ?_ (by simp only [Act.put, List.setIfInBounds_toArray, List.set_cons_succ, List.set_cons_zero] <;> rfl))) | (refine Kx.wpList_oldg_x HB _ _ rfl _ rfl (Try.isAgg4 _) _ HC.out rfl (Kx.framed ?_ (by simp only [Act.put, List.setIfInBounds_toArray, List.set_cons_succ, List.set_cons_zero] <;> rfl))) | (refine Kx.wpList_oldg_x HB _ _ rfl _ rfl (Try.isAgg3 _) _ HC.out rfl (Kx.framed ?_ (by simp only [Act.put, List.setIfInBounds_toArray, List.set_cons_succ, List.set_cons_zero] <;> rfl))) | (refine Kx.wpList_oldg_x HB _ _ rfl _ rfl (Try.isAgg2 _) _ HC.out rfl (Kx.framed ?_ (by simp only [Act.put, List.setIfInBounds_toArray, List.set_cons_succ, List.set_cons_zero] <;> rfl)))) | ((with_reducible refine Kx.store_gate ?_); first | (refine Kx.wpList_storewa_x HB rfl rfl _ _ _ rfl _ rfl _ rfl _ (by rfl) (by simp <;> rfl) (by rfl) ?_; clear HB; intro w_ HB) | (refine Kx.wpList_storea_x HB rfl rfl _ _ _ rfl _ rfl _ rfl _ _ (by simp [Kx.splice] <;> rfl) (by simp) (by simp <;> rfl) (by rfl) ?_; clear HB; intro w_ HB) | (refine Kx.wpList_storec_x HB rfl rfl _ _ _ rfl _ rfl rfl _ _ (by simp <;> rfl) (by simp) (by simp <;> rfl) ?_; clear HB; intro w_ HB) | (refine Kx.wpList_storet_x HB rfl rfl _ _ _ rfl _ rfl _ rfl rfl _ _ (by simp <;> rfl) (by simp) (by simp <;> rfl) ?_; clear HB; intro w_ HB) | (refine Kx.wpList_store1_x HB rfl rfl _ _ _ rfl _ rfl _ rfl rfl _ _ (by simp <;> rfl) (by simp) (by simp <;> rfl) ?_; clear HB; intro w_ HB))))
  rcases HO.out with rfl | ⟨rfl, rfl⟩
  · clear HO
    refine Kx.region_x HB (fun i => false) (by kernel_rfl) ?_
    refine anyW_take (i := 0) (v := ?v0_275) (a' := ?a0_275) (by first | exact Kx.bears_x | assumption) rfl (by kernel_rfl) (by kernel_rfl) (by kernel_rfl) (fun _ _ _ h => h) (by kernel_rfl) ?w0_275 ?y0_275 ?f0_275 ?r0_275
    case w0_275 => kernel_rfl
    case y0_275 => (intro w hC; go_simp; try with_reducible rfl)
    case f0_275 => (go_simp; try with_reducible rfl)
    refine anyW_take (i := 1) (v := ?v1_276) (a' := ?a1_276) (by first | exact Kx.bears_x | assumption) rfl (by kernel_rfl) (by kernel_rfl) (by kernel_rfl) (fun _ _ _ h => h) (by kernel_rfl) ?w1_276 ?y1_276 ?f1_276 ?r1_276
    case w1_276 => kernel_rfl
    case y1_276 => (intro w hC; go_simp; try with_reducible rfl)
    case f1_276 => (go_simp; try with_reducible rfl)
    refine anyW_take (i := 2) (v := ?v2_277) (a' := ?a2_277) (by first | exact Kx.bears_x | assumption) rfl (by kernel_rfl) (by kernel_rfl) (by kernel_rfl) (fun _ _ _ h => h) (by kernel_rfl) ?w2_277 ?y2_277 ?f2_277 ?r2_277
    case w2_277 => kernel_rfl
    case y2_277 => (intro w hC; go_simp; try with_reducible rfl)
    case f2_277 => (go_simp; try with_reducible rfl)
    refine anyW_take (i := 3) (v := ?v3_278) (a' := ?a3_278) (by first | exact Kx.bears_x | assumption) rfl (by kernel_rfl) (by kernel_rfl) (by kernel_rfl) (fun _ _ _ h => h) (by kernel_rfl) ?w3_278 ?y3_278 ?f3_278 ?r3_278
    case w3_278 => kernel_rfl
    case y3_278 => (intro w hC; go_simp; try with_reducible rfl)
    case f3_278 => (go_simp; try with_reducible rfl)
    refine anyW_skip (i := 4) (a' := ?a4_279) (by first | exact Kx.bears_x | assumption) rfl (by kernel_rfl) (by kernel_rfl) (by kernel_rfl) (fun _ _ _ h => h) (by kernel_rfl) (by kernel_rfl) ?f4_279 ?r4_279
    case f4_279 => (go_simp; try with_reducible rfl)
    refine anyW_skip (i := 5) (a' := ?a5_280) (by first | exact Kx.bears_x | assumption) rfl (by kernel_rfl) (by kernel_rfl) (by kernel_rfl) (fun _ _ _ h => h) (by kernel_rfl) (by kernel_rfl) ?f5_280 ?r5_280
    case f5_280 => (go_simp; try with_reducible rfl)
    refine anyW_skip (i := 6) (a' := ?a6_281) (by first | exact Kx.bears_x | assumption) rfl (by kernel_rfl) (by kernel_rfl) (by kernel_rfl) (fun _ _ _ h => h) (by kernel_rfl) (by kernel_rfl) ?f6_281 ?r6_281
    case f6_281 => (go_simp; try with_reducible rfl)
    refine anyW_take (i := 7) (v := ?v7_282) (a' := ?a7_282) (by first | exact Kx.bears_x | assumption) rfl (by kernel_rfl) (by kernel_rfl) (by kernel_rfl) (fun _ _ _ h => h) (by kernel_rfl) ?w7_282 ?y7_282 ?f7_282 ?r7_282
    case w7_282 => kernel_rfl
    case y7_282 => (intro w hC; go_simp; try with_reducible rfl)
    case f7_282 => (go_simp; try with_reducible rfl)
    refine anyW_take (i := 8) (v := ?v8_283) (a' := ?a8_283) (by first | exact Kx.bears_x | assumption) rfl (by kernel_rfl) (by kernel_rfl) (by kernel_rfl) (fun _ _ _ h => h) (by kernel_rfl) ?w8_283 ?y8_283 ?f8_283 ?r8_283
    case w8_283 => kernel_rfl
    case y8_283 => (intro w hC; go_simp; try with_reducible rfl)
    case f8_283 => (go_simp; try with_reducible rfl)
    refine anyW_take (i := 9) (v := ?v9_284) (a' := ?a9_284) (by first | exact Kx.bears_x | assumption) rfl (by kernel_rfl) (by kernel_rfl) (by kernel_rfl) (fun _ _ _ h => h) (by kernel_rfl) ?w9_284 ?y9_284 ?f9_284 ?r9_284
    case w9_284 => kernel_rfl
    case y9_284 => (intro w hC; go_simp; try with_reducible rfl)
    case f9_284 => (go_simp; try with_reducible rfl)
    refine anyW_take (i := 10) (v := ?v10_285) (a' := ?a10_285) (by first | exact Kx.bears_x | assumption) rfl (by kernel_rfl) (by kernel_rfl) (by kernel_rfl) (fun _ _ _ h => h) (by kernel_rfl) ?w10_285 ?y10_285 ?f10_285 ?r10_285
    case w10_285 => kernel_rfl
    case y10_285 => (intro W hW; first | (refine Eq.trans (Kx.tells_load1_x hW _ _ rfl _ inferInstance (Try.isAgg4 _) rfl) ?_; with_reducible rfl) | (refine Eq.trans (Kx.tells_load1_x hW _ _ rfl _ inferInstance (Try.isAgg3 _) rfl) ?_; with_reducible rfl) | (refine Eq.trans (Kx.tells_load1_x hW _ _ rfl _ inferInstance (Try.isAgg2 _) rfl) ?_; with_reducible rfl) | (refine Eq.trans (Kx.tells_old_x hW _ rfl (Try.isAgg4 _) HC.out) ?_; with_reducible rfl) | (refine Eq.trans (Kx.tells_old_x hW _ rfl (Try.isAgg3 _) HC.out) ?_; with_reducible rfl) | (refine Eq.trans (Kx.tells_old_x hW _ rfl (Try.isAgg2 _) HC.out) ?_; with_reducible rfl) | (refine Eq.trans (Kx.tells_load_x hW _ _ rfl _ inferInstance _ (Try.isAgg25 _) (Try.sizeOf25 _) _ (by first | exact Kx.whole (by rfl) | (simp <;> rfl)) (by rfl) rfl) ?_; with_reducible rfl) | (refine Eq.trans (Kx.tells_load_x hW _ _ rfl _ inferInstance _ (Try.isAgg28 _) (Try.sizeOf28 _) _ (by first | exact Kx.whole (by rfl) | (simp <;> rfl)) (by rfl) rfl) ?_; with_reducible rfl))
    case f10_285 => (go_simp; try with_reducible rfl)
    refine anyW_take (i := 11) (v := ?v11_286) (a' := ?a11_286) (by first | exact Kx.bears_x | assumption) rfl (by kernel_rfl) (by kernel_rfl) (by kernel_rfl) (fun _ _ _ h => h) (by kernel_rfl) ?w11_286 ?y11_286 ?f11_286 ?r11_286
    case w11_286 => kernel_rfl
    case y11_286 => (intro W hW; first | (refine Eq.trans (Kx.tells_load1_x hW _ _ rfl _ inferInstance (Try.isAgg4 _) rfl) ?_; with_reducible rfl) | (refine Eq.trans (Kx.tells_load1_x hW _ _ rfl _ inferInstance (Try.isAgg3 _) rfl) ?_; with_reducible rfl) | (refine Eq.trans (Kx.tells_load1_x hW _ _ rfl _ inferInstance (Try.isAgg2 _) rfl) ?_; with_reducible rfl) | (refine Eq.trans (Kx.tells_old_x hW _ rfl (Try.isAgg4 _) HC.out) ?_; with_reducible rfl) | (refine Eq.trans (Kx.tells_old_x hW _ rfl (Try.isAgg3 _) HC.out) ?_; with_reducible rfl) | (refine Eq.trans (Kx.tells_old_x hW _ rfl (Try.isAgg2 _) HC.out) ?_; with_reducible rfl) | (refine Eq.trans (Kx.tells_load_x hW _ _ rfl _ inferInstance _ (Try.isAgg25 _) (Try.sizeOf25 _) _ (by first | exact Kx.whole (by rfl) | (simp <;> rfl)) (by rfl) rfl) ?_; with_reducible rfl) | (refine Eq.trans (Kx.tells_load_x hW _ _ rfl _ inferInstance _ (Try.isAgg28 _) (Try.sizeOf28 _) _ (by first | exact Kx.whole (by rfl) | (simp <;> rfl)) (by rfl) rfl) ?_; with_reducible rfl))
    case f11_286 => (go_simp; try with_reducible rfl)
    refine anyW_call (i := 12) (v := ?v12_287) (f := ?g12_287) (args := ?s12_287) (a' := ?a12_287) (by first | exact Kx.bears_x | assumption) rfl (by kernel_rfl) (by kernel_rfl) (by kernel_rfl) (fun _ _ _ h => h) (by kernel_rfl) ?c12_287 ?w12_287 ?y12_287 ?f12_287 ?r12_287
    case w12_287 => kernel_rfl
    case y12_287 => (intro W hW; go_simp; first | (refine ⟨?_, ?_⟩ <;> with_reducible rfl) | with_reducible rfl)
    case c12_287 => (intro W hW; refine Calls.mono (PSame_self ⟨_, _, _, _, ⟨_, _⟩⟩ _) ?_; rintro e w_ ⟨rfl, hb_⟩; refine ⟨?_, by first | exact hb_ | exact hb_ ▸ Below.refl _ _⟩; with_reducible rfl)
    case f12_287 => (go_simp; try with_reducible rfl)
    refine anyW_take (i := 13) (v := ?v13_288) (a' := ?a13_288) (by first | exact Kx.bears_x | assumption) rfl (by kernel_rfl) (by kernel_rfl) (by kernel_rfl) (fun _ _ _ h => h) (by kernel_rfl) ?w13_288 ?y13_288 ?f13_288 ?r13_288
    case w13_288 => kernel_rfl
    case y13_288 => (intro w hC; go_simp; try with_reducible rfl)
    case f13_288 => (go_simp; try with_reducible rfl)
    refine anyW_take (i := 14) (v := ?v14_289) (a' := ?a14_289) (by first | exact Kx.bears_x | assumption) rfl (by kernel_rfl) (by kernel_rfl) (by kernel_rfl) (fun _ _ _ h => h) (by kernel_rfl) ?w14_289 ?y14_289 ?f14_289 ?r14_289
    case w14_289 => kernel_rfl
    case y14_289 => (intro w hC; go_simp; try with_reducible rfl)
    case f14_289 => (go_simp; try with_reducible rfl)
    refine anyW_take (i := 15) (v := ?v15_290) (a' := ?a15_290) (by first | exact Kx.bears_x | assumption) rfl (by kernel_rfl) (by kernel_rfl) (by kernel_rfl) (fun _ _ _ h => h) (by kernel_rfl) ?w15_290 ?y15_290 ?f15_290 ?r15_290
    case w15_290 => kernel_rfl
    case y15_290 => (intro W hW; first | (refine Eq.trans (Kx.tells_load1_x hW _ _ rfl _ inferInstance (Try.isAgg4 _) rfl) ?_; with_reducible rfl) | (refine Eq.trans (Kx.tells_load1_x hW _ _ rfl _ inferInstance (Try.isAgg3 _) rfl) ?_; with_reducible rfl) | (refine Eq.trans (Kx.tells_load1_x hW _ _ rfl _ inferInstance (Try.isAgg2 _) rfl) ?_; with_reducible rfl) | (refine Eq.trans (Kx.tells_old_x hW _ rfl (Try.isAgg4 _) HC.out) ?_; with_reducible rfl) | (refine Eq.trans (Kx.tells_old_x hW _ rfl (Try.isAgg3 _) HC.out) ?_; with_reducible rfl) | (refine Eq.trans (Kx.tells_old_x hW _ rfl (Try.isAgg2 _) HC.out) ?_; with_reducible rfl) | (refine Eq.trans (Kx.tells_load_x hW _ _ rfl _ inferInstance _ (Try.isAgg25 _) (Try.sizeOf25 _) _ (by first | exact Kx.whole (by rfl) | (simp <;> rfl)) (by rfl) rfl) ?_; with_reducible rfl) | (refine Eq.trans (Kx.tells_load_x hW _ _ rfl _ inferInstance _ (Try.isAgg28 _) (Try.sizeOf28 _) _ (by first | exact Kx.whole (by rfl) | (simp <;> rfl)) (by rfl) rfl) ?_; with_reducible rfl))
    case f15_290 => (go_simp; try with_reducible rfl)
    refine anyW_take (i := 16) (v := ?v16_291) (a' := ?a16_291) (by first | exact Kx.bears_x | assumption) rfl (by kernel_rfl) (by kernel_rfl) (by kernel_rfl) (fun _ _ _ h => h) (by kernel_rfl) ?w16_291 ?y16_291 ?f16_291 ?r16_291
    case w16_291 => kernel_rfl
    case y16_291 => (intro W hW; first | (refine Eq.trans (Kx.tells_load1_x hW _ _ rfl _ inferInstance (Try.isAgg4 _) rfl) ?_; with_reducible rfl) | (refine Eq.trans (Kx.tells_load1_x hW _ _ rfl _ inferInstance (Try.isAgg3 _) rfl) ?_; with_reducible rfl) | (refine Eq.trans (Kx.tells_load1_x hW _ _ rfl _ inferInstance (Try.isAgg2 _) rfl) ?_; with_reducible rfl) | (refine Eq.trans (Kx.tells_old_x hW _ rfl (Try.isAgg4 _) HC.out) ?_; with_reducible rfl) | (refine Eq.trans (Kx.tells_old_x hW _ rfl (Try.isAgg3 _) HC.out) ?_; with_reducible rfl) | (refine Eq.trans (Kx.tells_old_x hW _ rfl (Try.isAgg2 _) HC.out) ?_; with_reducible rfl) | (refine Eq.trans (Kx.tells_load_x hW _ _ rfl _ inferInstance _ (Try.isAgg25 _) (Try.sizeOf25 _) _ (by first | exact Kx.whole (by rfl) | (simp <;> rfl)) (by rfl) rfl) ?_; with_reducible rfl) | (refine Eq.trans (Kx.tells_load_x hW _ _ rfl _ inferInstance _ (Try.isAgg28 _) (Try.sizeOf28 _) _ (by first | exact Kx.whole (by rfl) | (simp <;> rfl)) (by rfl) rfl) ?_; with_reducible rfl))
    case f16_291 => (go_simp; try with_reducible rfl)
    refine anyW_take (i := 17) (v := ?v17_292) (a' := ?a17_292) (by first | exact Kx.bears_x | assumption) rfl (by kernel_rfl) (by kernel_rfl) (by kernel_rfl) (fun _ _ _ h => h) (by kernel_rfl) ?w17_292 ?y17_292 ?f17_292 ?r17_292
    case w17_292 => kernel_rfl
    case y17_292 => (intro w hC; go_simp; try with_reducible rfl)
    case f17_292 => (go_simp; try with_reducible rfl)
    refine anyW_take (i := 18) (v := ?v18_293) (a' := ?a18_293) (by first | exact Kx.bears_x | assumption) rfl (by kernel_rfl) (by kernel_rfl) (by kernel_rfl) (fun _ _ _ h => h) (by kernel_rfl) ?w18_293 ?y18_293 ?f18_293 ?r18_293
    case w18_293 => kernel_rfl
    case y18_293 => (intro W hW; first | (refine Eq.trans (Kx.tells_load1_x hW _ _ rfl _ inferInstance (Try.isAgg4 _) rfl) ?_; with_reducible rfl) | (refine Eq.trans (Kx.tells_load1_x hW _ _ rfl _ inferInstance (Try.isAgg3 _) rfl) ?_; with_reducible rfl) | (refine Eq.trans (Kx.tells_load1_x hW _ _ rfl _ inferInstance (Try.isAgg2 _) rfl) ?_; with_reducible rfl) | (refine Eq.trans (Kx.tells_old_x hW _ rfl (Try.isAgg4 _) HC.out) ?_; with_reducible rfl) | (refine Eq.trans (Kx.tells_old_x hW _ rfl (Try.isAgg3 _) HC.out) ?_; with_reducible rfl) | (refine Eq.trans (Kx.tells_old_x hW _ rfl (Try.isAgg2 _) HC.out) ?_; with_reducible rfl) | (refine Eq.trans (Kx.tells_load_x hW _ _ rfl _ inferInstance _ (Try.isAgg25 _) (Try.sizeOf25 _) _ (by first | exact Kx.whole (by rfl) | (simp <;> rfl)) (by rfl) rfl) ?_; with_reducible rfl) | (refine Eq.trans (Kx.tells_load_x hW _ _ rfl _ inferInstance _ (Try.isAgg28 _) (Try.sizeOf28 _) _ (by first | exact Kx.whole (by rfl) | (simp <;> rfl)) (by rfl) rfl) ?_; with_reducible rfl))
    case f18_293 => (go_simp; try with_reducible rfl)
    refine anyW_call (i := 19) (v := ?v19_294) (f := ?g19_294) (args := ?s19_294) (a' := ?a19_294) (by first | exact Kx.bears_x | assumption) rfl (by kernel_rfl) (by kernel_rfl) (by kernel_rfl) (fun _ _ _ h => h) (by kernel_rfl) ?c19_294 ?w19_294 ?y19_294 ?f19_294 ?r19_294
    case w19_294 => kernel_rfl
    case y19_294 => (intro W hW; go_simp; first | (refine ⟨?_, ?_⟩ <;> with_reducible rfl) | with_reducible rfl)
    case c19_294 => (intro W hW; refine Calls.mono (HA2.out _) ?_; rintro e w_ ⟨rfl, hb_⟩; refine ⟨?_, by first | exact hb_ | exact hb_ ▸ Below.refl _ _⟩; with_reducible rfl)
    case f19_294 => (go_simp; try with_reducible rfl)
    refine anyW_take (i := 20) (v := ?v20_295) (a' := ?a20_295) (by first | exact Kx.bears_x | assumption) rfl (by kernel_rfl) (by kernel_rfl) (by kernel_rfl) (fun _ _ _ h => h) (by kernel_rfl) ?w20_295 ?y20_295 ?f20_295 ?r20_295
    case w20_295 => kernel_rfl
    case y20_295 => (intro W hW; first | (refine Eq.trans (Kx.tells_load1_x hW _ _ rfl _ inferInstance (Try.isAgg4 _) rfl) ?_; with_reducible rfl) | (refine Eq.trans (Kx.tells_load1_x hW _ _ rfl _ inferInstance (Try.isAgg3 _) rfl) ?_; with_reducible rfl) | (refine Eq.trans (Kx.tells_load1_x hW _ _ rfl _ inferInstance (Try.isAgg2 _) rfl) ?_; with_reducible rfl) | (refine Eq.trans (Kx.tells_old_x hW _ rfl (Try.isAgg4 _) HC.out) ?_; with_reducible rfl) | (refine Eq.trans (Kx.tells_old_x hW _ rfl (Try.isAgg3 _) HC.out) ?_; with_reducible rfl) | (refine Eq.trans (Kx.tells_old_x hW _ rfl (Try.isAgg2 _) HC.out) ?_; with_reducible rfl) | (refine Eq.trans (Kx.tells_load_x hW _ _ rfl _ inferInstance _ (Try.isAgg25 _) (Try.sizeOf25 _) _ (by first | exact Kx.whole (by rfl) | (simp <;> rfl)) (by rfl) rfl) ?_; with_reducible rfl) | (refine Eq.trans (Kx.tells_load_x hW _ _ rfl _ inferInstance _ (Try.isAgg28 _) (Try.sizeOf28 _) _ (by first | exact Kx.whole (by rfl) | (simp <;> rfl)) (by rfl) rfl) ?_; with_reducible rfl))
    case f20_295 => (go_simp; try with_reducible rfl)
    refine anyW_call (i := 21) (v := ?v21_296) (f := ?g21_296) (args := ?s21_296) (a' := ?a21_296) (by first | exact Kx.bears_x | assumption) rfl (by kernel_rfl) (by kernel_rfl) (by kernel_rfl) (fun _ _ _ h => h) (by kernel_rfl) ?c21_296 ?w21_296 ?y21_296 ?f21_296 ?r21_296
    case w21_296 => kernel_rfl
    case y21_296 => (intro W hW; go_simp; first | (refine ⟨?_, ?_⟩ <;> with_reducible rfl) | with_reducible rfl)
    case c21_296 => (intro W hW; refine Calls.mono (HS.out _) ?_; rintro e w_ ⟨rfl, hb_⟩; refine ⟨?_, by first | exact hb_ | exact hb_ ▸ Below.refl _ _⟩; with_reducible rfl)
    case f21_296 => (go_simp; try with_reducible rfl)
    refine anyW_take (i := 22) (v := ?v22_297) (a' := ?a22_297) (by first | exact Kx.bears_x | assumption) rfl (by kernel_rfl) (by kernel_rfl) (by kernel_rfl) (fun _ _ _ h => h) (by kernel_rfl) ?w22_297 ?y22_297 ?f22_297 ?r22_297
    case w22_297 => kernel_rfl
    case y22_297 => (intro w hC; go_simp; try with_reducible rfl)
    case f22_297 => (go_simp; try with_reducible rfl)
    refine anyW_take (i := 23) (v := ?v23_298) (a' := ?a23_298) (by first | exact Kx.bears_x | assumption) rfl (by kernel_rfl) (by kernel_rfl) (by kernel_rfl) (fun _ _ _ h => h) (by kernel_rfl) ?w23_298 ?y23_298 ?f23_298 ?r23_298
    case w23_298 => kernel_rfl
    case y23_298 => (intro w hC; go_simp; try with_reducible rfl)
    case f23_298 => (go_simp; try with_reducible rfl)
    refine anyW_done (by kernel_rfl) ?_
    clear HB
    intro w_ HB_
    have HB := Lib.hid HB_
    clear HB_
    go_wp2
    go_ret
    exact ⟨rfl, HB.out.below⟩
  · clear HO
    refine Kx.region_x HB (fun i => false) (by kernel_rfl) ?_
    refine anyW_take (i := 0) (v := ?v0_299) (a' := ?a0_299) (by first | exact Kx.bears_x | assumption) rfl (by kernel_rfl) (by kernel_rfl) (by kernel_rfl) (fun _ _ _ h => h) (by kernel_rfl) ?w0_299 ?y0_299 ?f0_299 ?r0_299
    case w0_299 => kernel_rfl
    case y0_299 => (intro w hC; go_simp; try with_reducible rfl)
    case f0_299 => (go_simp; try with_reducible rfl)
    refine anyW_take (i := 1) (v := ?v1_300) (a' := ?a1_300) (by first | exact Kx.bears_x | assumption) rfl (by kernel_rfl) (by kernel_rfl) (by kernel_rfl) (fun _ _ _ h => h) (by kernel_rfl) ?w1_300 ?y1_300 ?f1_300 ?r1_300
    case w1_300 => kernel_rfl
    case y1_300 => (intro w hC; go_simp; try with_reducible rfl)
    case f1_300 => (go_simp; try with_reducible rfl)
    refine anyW_take (i := 2) (v := ?v2_301) (a' := ?a2_301) (by first | exact Kx.bears_x | assumption) rfl (by kernel_rfl) (by kernel_rfl) (by kernel_rfl) (fun _ _ _ h => h) (by kernel_rfl) ?w2_301 ?y2_301 ?f2_301 ?r2_301
    case w2_301 => kernel_rfl
    case y2_301 => (intro w hC; go_simp; try with_reducible rfl)
    case f2_301 => (go_simp; try with_reducible rfl)
    refine anyW_take (i := 3) (v := ?v3_302) (a' := ?a3_302) (by first | exact Kx.bears_x | assumption) rfl (by kernel_rfl) (by kernel_rfl) (by kernel_rfl) (fun _ _ _ h => h) (by kernel_rfl) ?w3_302 ?y3_302 ?f3_302 ?r3_302
    case w3_302 => kernel_rfl
    case y3_302 => (intro w hC; go_simp; try with_reducible rfl)
    case f3_302 => (go_simp; try with_reducible rfl)
    refine anyW_take (i := 4) (v := ?v4_303) (a' := ?a4_303) (by first | exact Kx.bears_x | assumption) rfl (by kernel_rfl) (by kernel_rfl) (by kernel_rfl) (fun _ _ _ h => h) (by kernel_rfl) ?w4_303 ?y4_303 ?f4_303 ?r4_303
    case w4_303 => kernel_rfl
    case y4_303 => (intro w hC; go_simp; try with_reducible rfl)
    case f4_303 => (go_simp; try with_reducible rfl)
    refine anyW_take (i := 5) (v := ?v5_304) (a' := ?a5_304) (by first | exact Kx.bears_x | assumption) rfl (by kernel_rfl) (by kernel_rfl) (by kernel_rfl) (fun _ _ _ h => h) (by kernel_rfl) ?w5_304 ?y5_304 ?f5_304 ?r5_304
    case w5_304 => kernel_rfl
    case y5_304 => (intro W hW; first | (refine Eq.trans (Kx.tells_load1_x hW _ _ rfl _ inferInstance (Try.isAgg4 _) rfl) ?_; with_reducible rfl) | (refine Eq.trans (Kx.tells_load1_x hW _ _ rfl _ inferInstance (Try.isAgg3 _) rfl) ?_; with_reducible rfl) | (refine Eq.trans (Kx.tells_load1_x hW _ _ rfl _ inferInstance (Try.isAgg2 _) rfl) ?_; with_reducible rfl) | (refine Eq.trans (Kx.tells_old_x hW _ rfl (Try.isAgg4 _) HC.out) ?_; with_reducible rfl) | (refine Eq.trans (Kx.tells_old_x hW _ rfl (Try.isAgg3 _) HC.out) ?_; with_reducible rfl) | (refine Eq.trans (Kx.tells_old_x hW _ rfl (Try.isAgg2 _) HC.out) ?_; with_reducible rfl) | (refine Eq.trans (Kx.tells_load_x hW _ _ rfl _ inferInstance _ (Try.isAgg25 _) (Try.sizeOf25 _) _ (by first | exact Kx.whole (by rfl) | (simp <;> rfl)) (by rfl) rfl) ?_; with_reducible rfl) | (refine Eq.trans (Kx.tells_load_x hW _ _ rfl _ inferInstance _ (Try.isAgg28 _) (Try.sizeOf28 _) _ (by first | exact Kx.whole (by rfl) | (simp <;> rfl)) (by rfl) rfl) ?_; with_reducible rfl))
    case f5_304 => (go_simp; try with_reducible rfl)
    refine anyW_take (i := 6) (v := ?v6_305) (a' := ?a6_305) (by first | exact Kx.bears_x | assumption) rfl (by kernel_rfl) (by kernel_rfl) (by kernel_rfl) (fun _ _ _ h => h) (by kernel_rfl) ?w6_305 ?y6_305 ?f6_305 ?r6_305
    case w6_305 => kernel_rfl
    case y6_305 => (intro w hC; go_simp; try with_reducible rfl)
    case f6_305 => (go_simp; try with_reducible rfl)
    refine anyW_take (i := 7) (v := ?v7_306) (a' := ?a7_306) (by first | exact Kx.bears_x | assumption) rfl (by kernel_rfl) (by kernel_rfl) (by kernel_rfl) (fun _ _ _ h => h) (by kernel_rfl) ?w7_306 ?y7_306 ?f7_306 ?r7_306
    case w7_306 => kernel_rfl
    case y7_306 => (intro w hC; go_simp; try with_reducible rfl)
    case f7_306 => (go_simp; try with_reducible rfl)
    refine anyW_take (i := 8) (v := ?v8_307) (a' := ?a8_307) (by first | exact Kx.bears_x | assumption) rfl (by kernel_rfl) (by kernel_rfl) (by kernel_rfl) (fun _ _ _ h => h) (by kernel_rfl) ?w8_307 ?y8_307 ?f8_307 ?r8_307
    case w8_307 => kernel_rfl
    case y8_307 => (intro w hC; go_simp; try with_reducible rfl)
    case f8_307 => (go_simp; try with_reducible rfl)
    refine anyW_take (i := 9) (v := ?v9_308) (a' := ?a9_308) (by first | exact Kx.bears_x | assumption) rfl (by kernel_rfl) (by kernel_rfl) (by kernel_rfl) (fun _ _ _ h => h) (by kernel_rfl) ?w9_308 ?y9_308 ?f9_308 ?r9_308
    case w9_308 => kernel_rfl
    case y9_308 => (intro w hC; go_simp; try with_reducible rfl)
    case f9_308 => (go_simp; try with_reducible rfl)
    refine anyW_take (i := 10) (v := ?v10_309) (a' := ?a10_309) (by first | exact Kx.bears_x | assumption) rfl (by kernel_rfl) (by kernel_rfl) (by kernel_rfl) (fun _ _ _ h => h) (by kernel_rfl) ?w10_309 ?y10_309 ?f10_309 ?r10_309
    case w10_309 => kernel_rfl
    case y10_309 => (intro W hW; first | (refine Eq.trans (Kx.tells_load1_x hW _ _ rfl _ inferInstance (Try.isAgg4 _) rfl) ?_; with_reducible rfl) | (refine Eq.trans (Kx.tells_load1_x hW _ _ rfl _ inferInstance (Try.isAgg3 _) rfl) ?_; with_reducible rfl) | (refine Eq.trans (Kx.tells_load1_x hW _ _ rfl _ inferInstance (Try.isAgg2 _) rfl) ?_; with_reducible rfl) | (refine Eq.trans (Kx.tells_old_x hW _ rfl (Try.isAgg4 _) HC.out) ?_; with_reducible rfl) | (refine Eq.trans (Kx.tells_old_x hW _ rfl (Try.isAgg3 _) HC.out) ?_; with_reducible rfl) | (refine Eq.trans (Kx.tells_old_x hW _ rfl (Try.isAgg2 _) HC.out) ?_; with_reducible rfl) | (refine Eq.trans (Kx.tells_load_x hW _ _ rfl _ inferInstance _ (Try.isAgg25 _) (Try.sizeOf25 _) _ (by first | exact Kx.whole (by rfl) | (simp <;> rfl)) (by rfl) rfl) ?_; with_reducible rfl) | (refine Eq.trans (Kx.tells_load_x hW _ _ rfl _ inferInstance _ (Try.isAgg28 _) (Try.sizeOf28 _) _ (by first | exact Kx.whole (by rfl) | (simp <;> rfl)) (by rfl) rfl) ?_; with_reducible rfl))
    case f10_309 => (go_simp; try with_reducible rfl)
    refine anyW_take (i := 11) (v := ?v11_310) (a' := ?a11_310) (by first | exact Kx.bears_x | assumption) rfl (by kernel_rfl) (by kernel_rfl) (by kernel_rfl) (fun _ _ _ h => h) (by kernel_rfl) ?w11_310 ?y11_310 ?f11_310 ?r11_310
    case w11_310 => kernel_rfl
    case y11_310 => (intro W hW; first | (refine Eq.trans (Kx.tells_load1_x hW _ _ rfl _ inferInstance (Try.isAgg4 _) rfl) ?_; with_reducible rfl) | (refine Eq.trans (Kx.tells_load1_x hW _ _ rfl _ inferInstance (Try.isAgg3 _) rfl) ?_; with_reducible rfl) | (refine Eq.trans (Kx.tells_load1_x hW _ _ rfl _ inferInstance (Try.isAgg2 _) rfl) ?_; with_reducible rfl) | (refine Eq.trans (Kx.tells_old_x hW _ rfl (Try.isAgg4 _) HC.out) ?_; with_reducible rfl) | (refine Eq.trans (Kx.tells_old_x hW _ rfl (Try.isAgg3 _) HC.out) ?_; with_reducible rfl) | (refine Eq.trans (Kx.tells_old_x hW _ rfl (Try.isAgg2 _) HC.out) ?_; with_reducible rfl) | (refine Eq.trans (Kx.tells_load_x hW _ _ rfl _ inferInstance _ (Try.isAgg25 _) (Try.sizeOf25 _) _ (by first | exact Kx.whole (by rfl) | (simp <;> rfl)) (by rfl) rfl) ?_; with_reducible rfl) | (refine Eq.trans (Kx.tells_load_x hW _ _ rfl _ inferInstance _ (Try.isAgg28 _) (Try.sizeOf28 _) _ (by first | exact Kx.whole (by rfl) | (simp <;> rfl)) (by rfl) rfl) ?_; with_reducible rfl))
    case f11_310 => (go_simp; try with_reducible rfl)
    refine anyW_call (i := 12) (v := ?v12_311) (f := ?g12_311) (args := ?s12_311) (a' := ?a12_311) (by first | exact Kx.bears_x | assumption) rfl (by kernel_rfl) (by kernel_rfl) (by kernel_rfl) (fun _ _ _ h => h) (by kernel_rfl) ?c12_311 ?w12_311 ?y12_311 ?f12_311 ?r12_311
    case w12_311 => kernel_rfl
    case y12_311 => (intro W hW; go_simp; first | (refine ⟨?_, ?_⟩ <;> with_reducible rfl) | with_reducible rfl)
    case c12_311 => (intro W hW; refine Calls.mono (PSame_self ⟨_, _, _, _, ⟨_, _⟩⟩ _) ?_; rintro e w_ ⟨rfl, hb_⟩; refine ⟨?_, by first | exact hb_ | exact hb_ ▸ Below.refl _ _⟩; with_reducible rfl)
    case f12_311 => (go_simp; try with_reducible rfl)
    refine anyW_take (i := 13) (v := ?v13_312) (a' := ?a13_312) (by first | exact Kx.bears_x | assumption) rfl (by kernel_rfl) (by kernel_rfl) (by kernel_rfl) (fun _ _ _ h => h) (by kernel_rfl) ?w13_312 ?y13_312 ?f13_312 ?r13_312
    case w13_312 => kernel_rfl
    case y13_312 => (intro w hC; go_simp; try with_reducible rfl)
    case f13_312 => (go_simp; try with_reducible rfl)
    refine anyW_take (i := 14) (v := ?v14_313) (a' := ?a14_313) (by first | exact Kx.bears_x | assumption) rfl (by kernel_rfl) (by kernel_rfl) (by kernel_rfl) (fun _ _ _ h => h) (by kernel_rfl) ?w14_313 ?y14_313 ?f14_313 ?r14_313
    case w14_313 => kernel_rfl
    case y14_313 => (intro w hC; go_simp; try with_reducible rfl)
    case f14_313 => (go_simp; try with_reducible rfl)
    refine anyW_take (i := 15) (v := ?v15_314) (a' := ?a15_314) (by first | exact Kx.bears_x | assumption) rfl (by kernel_rfl) (by kernel_rfl) (by kernel_rfl) (fun _ _ _ h => h) (by kernel_rfl) ?w15_314 ?y15_314 ?f15_314 ?r15_314
    case w15_314 => kernel_rfl
    case y15_314 => (intro W hW; first | (refine Eq.trans (Kx.tells_load1_x hW _ _ rfl _ inferInstance (Try.isAgg4 _) rfl) ?_; with_reducible rfl) | (refine Eq.trans (Kx.tells_load1_x hW _ _ rfl _ inferInstance (Try.isAgg3 _) rfl) ?_; with_reducible rfl) | (refine Eq.trans (Kx.tells_load1_x hW _ _ rfl _ inferInstance (Try.isAgg2 _) rfl) ?_; with_reducible rfl) | (refine Eq.trans (Kx.tells_old_x hW _ rfl (Try.isAgg4 _) HC.out) ?_; with_reducible rfl) | (refine Eq.trans (Kx.tells_old_x hW _ rfl (Try.isAgg3 _) HC.out) ?_; with_reducible rfl) | (refine Eq.trans (Kx.tells_old_x hW _ rfl (Try.isAgg2 _) HC.out) ?_; with_reducible rfl) | (refine Eq.trans (Kx.tells_load_x hW _ _ rfl _ inferInstance _ (Try.isAgg25 _) (Try.sizeOf25 _) _ (by first | exact Kx.whole (by rfl) | (simp <;> rfl)) (by rfl) rfl) ?_; with_reducible rfl) | (refine Eq.trans (Kx.tells_load_x hW _ _ rfl _ inferInstance _ (Try.isAgg28 _) (Try.sizeOf28 _) _ (by first | exact Kx.whole (by rfl) | (simp <;> rfl)) (by rfl) rfl) ?_; with_reducible rfl))
    case f15_314 => (go_simp; try with_reducible rfl)
    refine anyW_take (i := 16) (v := ?v16_315) (a' := ?a16_315) (by first | exact Kx.bears_x | assumption) rfl (by kernel_rfl) (by kernel_rfl) (by kernel_rfl) (fun _ _ _ h => h) (by kernel_rfl) ?w16_315 ?y16_315 ?f16_315 ?r16_315
    case w16_315 => kernel_rfl
    case y16_315 => (intro W hW; first | (refine Eq.trans (Kx.tells_load1_x hW _ _ rfl _ inferInstance (Try.isAgg4 _) rfl) ?_; with_reducible rfl) | (refine Eq.trans (Kx.tells_load1_x hW _ _ rfl _ inferInstance (Try.isAgg3 _) rfl) ?_; with_reducible rfl) | (refine Eq.trans (Kx.tells_load1_x hW _ _ rfl _ inferInstance (Try.isAgg2 _) rfl) ?_; with_reducible rfl) | (refine Eq.trans (Kx.tells_old_x hW _ rfl (Try.isAgg4 _) HC.out) ?_; with_reducible rfl) | (refine Eq.trans (Kx.tells_old_x hW _ rfl (Try.isAgg3 _) HC.out) ?_; with_reducible rfl) | (refine Eq.trans (Kx.tells_old_x hW _ rfl (Try.isAgg2 _) HC.out) ?_; with_reducible rfl) | (refine Eq.trans (Kx.tells_load_x hW _ _ rfl _ inferInstance _ (Try.isAgg25 _) (Try.sizeOf25 _) _ (by first | exact Kx.whole (by rfl) | (simp <;> rfl)) (by rfl) rfl) ?_; with_reducible rfl) | (refine Eq.trans (Kx.tells_load_x hW _ _ rfl _ inferInstance _ (Try.isAgg28 _) (Try.sizeOf28 _) _ (by first | exact Kx.whole (by rfl) | (simp <;> rfl)) (by rfl) rfl) ?_; with_reducible rfl))
    case f16_315 => (go_simp; try with_reducible rfl)
    refine anyW_take (i := 17) (v := ?v17_316) (a' := ?a17_316) (by first | exact Kx.bears_x | assumption) rfl (by kernel_rfl) (by kernel_rfl) (by kernel_rfl) (fun _ _ _ h => h) (by kernel_rfl) ?w17_316 ?y17_316 ?f17_316 ?r17_316
    case w17_316 => kernel_rfl
    case y17_316 => (intro w hC; go_simp; try with_reducible rfl)
    case f17_316 => (go_simp; try with_reducible rfl)
    refine anyW_take (i := 18) (v := ?v18_317) (a' := ?a18_317) (by first | exact Kx.bears_x | assumption) rfl (by kernel_rfl) (by kernel_rfl) (by kernel_rfl) (fun _ _ _ h => h) (by kernel_rfl) ?w18_317 ?y18_317 ?f18_317 ?r18_317
    case w18_317 => kernel_rfl
    case y18_317 => (intro W hW; first | (refine Eq.trans (Kx.tells_load1_x hW _ _ rfl _ inferInstance (Try.isAgg4 _) rfl) ?_; with_reducible rfl) | (refine Eq.trans (Kx.tells_load1_x hW _ _ rfl _ inferInstance (Try.isAgg3 _) rfl) ?_; with_reducible rfl) | (refine Eq.trans (Kx.tells_load1_x hW _ _ rfl _ inferInstance (Try.isAgg2 _) rfl) ?_; with_reducible rfl) | (refine Eq.trans (Kx.tells_old_x hW _ rfl (Try.isAgg4 _) HC.out) ?_; with_reducible rfl) | (refine Eq.trans (Kx.tells_old_x hW _ rfl (Try.isAgg3 _) HC.out) ?_; with_reducible rfl) | (refine Eq.trans (Kx.tells_old_x hW _ rfl (Try.isAgg2 _) HC.out) ?_; with_reducible rfl) | (refine Eq.trans (Kx.tells_load_x hW _ _ rfl _ inferInstance _ (Try.isAgg25 _) (Try.sizeOf25 _) _ (by first | exact Kx.whole (by rfl) | (simp <;> rfl)) (by rfl) rfl) ?_; with_reducible rfl) | (refine Eq.trans (Kx.tells_load_x hW _ _ rfl _ inferInstance _ (Try.isAgg28 _) (Try.sizeOf28 _) _ (by first | exact Kx.whole (by rfl) | (simp <;> rfl)) (by rfl) rfl) ?_; with_reducible rfl))
    case f18_317 => (go_simp; try with_reducible rfl)
    refine anyW_call (i := 19) (v := ?v19_318) (f := ?g19_318) (args := ?s19_318) (a' := ?a19_318) (by first | exact Kx.bears_x | assumption) rfl (by kernel_rfl) (by kernel_rfl) (by kernel_rfl) (fun _ _ _ h => h) (by kernel_rfl) ?c19_318 ?w19_318 ?y19_318 ?f19_318 ?r19_318
    case w19_318 => kernel_rfl
    case y19_318 => (intro W hW; go_simp; first | (refine ⟨?_, ?_⟩ <;> with_reducible rfl) | with_reducible rfl)
    case c19_318 => (intro W hW; refine Calls.mono (HA2.out _) ?_; rintro e w_ ⟨rfl, hb_⟩; refine ⟨?_, by first | exact hb_ | exact hb_ ▸ Below.refl _ _⟩; with_reducible rfl)
    case f19_318 => (go_simp; try with_reducible rfl)
    refine anyW_take (i := 20) (v := ?v20_319) (a' := ?a20_319) (by first | exact Kx.bears_x | assumption) rfl (by kernel_rfl) (by kernel_rfl) (by kernel_rfl) (fun _ _ _ h => h) (by kernel_rfl) ?w20_319 ?y20_319 ?f20_319 ?r20_319
    case w20_319 => kernel_rfl
    case y20_319 => (intro W hW; first | (refine Eq.trans (Kx.tells_load1_x hW _ _ rfl _ inferInstance (Try.isAgg4 _) rfl) ?_; with_reducible rfl) | (refine Eq.trans (Kx.tells_load1_x hW _ _ rfl _ inferInstance (Try.isAgg3 _) rfl) ?_; with_reducible rfl) | (refine Eq.trans (Kx.tells_load1_x hW _ _ rfl _ inferInstance (Try.isAgg2 _) rfl) ?_; with_reducible rfl) | (refine Eq.trans (Kx.tells_old_x hW _ rfl (Try.isAgg4 _) HC.out) ?_; with_reducible rfl) | (refine Eq.trans (Kx.tells_old_x hW _ rfl (Try.isAgg3 _) HC.out) ?_; with_reducible rfl) | (refine Eq.trans (Kx.tells_old_x hW _ rfl (Try.isAgg2 _) HC.out) ?_; with_reducible rfl) | (refine Eq.trans (Kx.tells_load_x hW _ _ rfl _ inferInstance _ (Try.isAgg25 _) (Try.sizeOf25 _) _ (by first | exact Kx.whole (by rfl) | (simp <;> rfl)) (by rfl) rfl) ?_; with_reducible rfl) | (refine Eq.trans (Kx.tells_load_x hW _ _ rfl _ inferInstance _ (Try.isAgg28 _) (Try.sizeOf28 _) _ (by first | exact Kx.whole (by rfl) | (simp <;> rfl)) (by rfl) rfl) ?_; with_reducible rfl))
    case f20_319 => (go_simp; try with_reducible rfl)
    refine anyW_call (i := 21) (v := ?v21_320) (f := ?g21_320) (args := ?s21_320) (a' := ?a21_320) (by first | exact Kx.bears_x | assumption) rfl (by kernel_rfl) (by kernel_rfl) (by kernel_rfl) (fun _ _ _ h => h) (by kernel_rfl) ?c21_320 ?w21_320 ?y21_320 ?f21_320 ?r21_320
    case w21_320 => kernel_rfl
    case y21_320 => (intro W hW; go_simp; first | (refine ⟨?_, ?_⟩ <;> with_reducible rfl) | with_reducible rfl)
    case c21_320 => (intro W hW; refine Calls.mono (HS.out _) ?_; rintro e w_ ⟨rfl, hb_⟩; refine ⟨?_, by first | exact hb_ | exact hb_ ▸ Below.refl _ _⟩; with_reducible rfl)
    case f21_320 => (go_simp; try with_reducible rfl)
    refine anyW_take (i := 22) (v := ?v22_321) (a' := ?a22_321) (by first | exact Kx.bears_x | assumption) rfl (by kernel_rfl) (by kernel_rfl) (by kernel_rfl) (fun _ _ _ h => h) (by kernel_rfl) ?w22_321 ?y22_321 ?f22_321 ?r22_321
    case w22_321 => kernel_rfl
    case y22_321 => (intro w hC; go_simp; try with_reducible rfl)
    case f22_321 => (go_simp; try with_reducible rfl)
    refine anyW_take (i := 23) (v := ?v23_322) (a' := ?a23_322) (by first | exact Kx.bears_x | assumption) rfl (by kernel_rfl) (by kernel_rfl) (by kernel_rfl) (fun _ _ _ h => h) (by kernel_rfl) ?w23_322 ?y23_322 ?f23_322 ?r23_322
    case w23_322 => kernel_rfl
    case y23_322 => (intro w hC; go_simp; try with_reducible rfl)
    case f23_322 => (go_simp; try with_reducible rfl)
    refine anyW_done (by kernel_rfl) ?_
    clear HB
    intro w_ HB_
    have HB := Lib.hid HB_
    clear HB_
    go_wp2
    go_ret
    exact ⟨rfl, HB.out.below⟩
set_option maxRecDepth 100000 in
set_option maxHeartbeats 4000000 in
theorem late_run1 (nx : Int) (op : Bool) (nn sc r0 : Int) (e wt n : Int) (w : World) (e0 : 0 ≤ e ∧ e ≤ 255) (w0 : 0 ≤ wt ∧ wt ≤ 255) (n0 : 0 ≤ n ∧ n ≤ 65535) (hr : r0 ≠ 0) :
    Calls Try.prog 8 #[.agg #[.int .i64 nx, .bool op, .int .i64 nn, .int .i64 sc, .bool true, .int .i64 r0], .int .u8 e, .int .u8 wt, .int .u16 n, .int .i64 0] w fun e w' => e = .returned (.bool true) ∧ Below w.heap.size w w' := by
  obtain ⟨e0, e1⟩ := e0
  obtain ⟨w0, w1⟩ := w0
  obtain ⟨n0, n1⟩ := n0
  have HB := Lib.hid (Bxs.start w)
  have v1 : IntKind.i64.wrap e = e := by rw [IntKind.wrap_i64]; omega
  have v2 : IntKind.i64.wrap (1 + e) = 1 + e := by rw [IntKind.wrap_i64]; omega
  have v3 : IntKind.i64.wrap wt = wt := by rw [IntKind.wrap_i64]; omega
  have v4 : IntKind.i64.wrap (1 + wt) = 1 + wt := by rw [IntKind.wrap_i64]; omega
  have v5 : IntKind.i64.wrap n = n := by rw [IntKind.wrap_i64]; omega
  have v6 : IntKind.i64.wrap (n + (1 + wt)) = n + (1 + wt) := by rw [IntKind.wrap_i64]; omega
  have HT1 : Hid (∀ W, Calls Try.prog 10 #[.agg #[.int .i64 n, .bool false, .int .i64 nn, .int .i64 sc, .bool true, .int .i64 r0], .agg (cf (mk (1 + e) (1 + wt) 2 2)).toArray, .int .i64 n, .int .i64 0] W fun e' w' => e' = .returned (.tuple #[.agg #[.int .i64 (Pm.bd (n + Pm.bd (1 + e))), .bool true, .int .i64 0, .int .i64 n, .bool true, .int .i64 r0], .bool true]) ∧ Below W.heap.size W w') := Lib.hid fun W => by
    have h := Tick_any ⟨n, false, nn, sc, ⟨true, r0⟩⟩ (mk (1 + e) (1 + wt) 2 2) n 0 W
    dsimp only [mk] at h
    rw [late_first ⟨true, r0⟩ nn sc (1 + e) (1 + wt) n 0 n0 n1] at h
    exact h
  obtain ⟨q, b, hq, hs, ho⟩ := late_second ⟨true, r0⟩ (Pm.bd (n + Pm.bd (1 + e))) (1 + e) (1 + wt) n 0 1 n0 n1 (by omega) (by omega)
  have HT2 : Hid (∀ W, Calls Try.prog 10 #[.agg #[.int .i64 (Pm.bd (n + Pm.bd (1 + e))), .bool true, .int .i64 0, .int .i64 n, .bool true, .int .i64 r0], .agg (cf (mk (1 + e) (1 + wt) 2 2)).toArray, .int .i64 (n + (1 + wt)), .int .i64 1] W fun e' w' => e' = .returned (.tuple #[.agg (pl q).toArray, .bool b]) ∧ Below W.heap.size W w') := Lib.hid fun W => by
    have h := Tick_any ⟨Pm.bd (n + Pm.bd (1 + e)), true, 0, n, ⟨true, r0⟩⟩ (mk (1 + e) (1 + wt) 2 2) (n + (1 + wt)) 1 W
    dsimp only [mk] at h
    rw [hq] at h
    exact h
  have HA1 : Hid (∀ W, Calls Try.prog 13 #[.agg (pl q).toArray, .agg (cf (mk (1 + e) (1 + wt) 2 2)).toArray, .int .i64 0] W fun e' w' => e' = .returned (.agg (pl q).toArray) ∧ Below W.heap.size W w') := Lib.hid fun W => by
    have h := Alive_any q (mk (1 + e) (1 + wt) 2 2) 0 W
    rw [late_third (o := 1) (fun k => (ho k).1) (by decide)] at h
    exact h
  have HA2 : Hid (∀ W, Calls Try.prog 13 #[.agg #[.int .i64 n, .bool false, .int .i64 nn, .int .i64 sc, .bool true, .int .i64 r0], .agg (cf (mk (1 + e) (1 + wt) 2 2)).toArray, .int .i64 nn] W fun e' w' => e' = .returned (.agg #[.int .i64 n, .bool false, .int .i64 nn, .int .i64 sc, .bool true, .int .i64 r0]) ∧ Below W.heap.size W w') := Lib.hid fun W => by
    have h := Alive_any ⟨n, false, nn, sc, ⟨true, r0⟩⟩ (mk (1 + e) (1 + wt) 2 2) nn W
    rw [Pm.alive_shut rfl] at h
    exact h
  have HS : Hid (∀ W, Calls Try.prog 12 #[.agg #[.int .i64 n, .bool false, .int .i64 nn, .int .i64 sc, .bool true, .int .i64 r0], .agg #[.int .i64 n, .bool false, .int .i64 nn, .int .i64 sc, .bool true, .int .i64 r0]] W fun e' w' => e' = .returned (.bool true) ∧ Below W.heap.size W w') := Lib.hid fun W => PSame_self ⟨n, false, nn, sc, ⟨true, r0⟩⟩ W
  have HM := Lib.hid (mk_built (1 + e) (1 + wt) 2 2)
  dsimp only [cf, mk] at HT1 HT2 HA1 HA2
  clear hq
  obtain ⟨qx, qo, qn, qs, ⟨qu, qr⟩⟩ := q
  have d2 : (r0 == 0) = false := by simp [hr]
  have hob : b = true ∨ (b = false ∧ qo = false) := by cases qo with
    | true => exact .inl (ho rfl).2
    | false => cases b <;> simp
  generalize Pm.bd (n + Pm.bd (1 + e)) = X at *
  have HO := Lib.hid hob
  clear hs ho hob hr
  go_enter Try.func8, Try.ntmps8
  go_wp2_with (first | ((with_reducible refine Kx.build_gate ?_); refine Km.wpList_build rfl 28 _ rfl #[(6, .int .i64 (1 + e)), (7, .int .i64 (1 + wt)), (8, .int .i64 2), (9, .int .i64 2)] rfl (cf (mk (1 + e) (1 + wt) 2 2)).toArray (HM.out) ?_; refine Kx.framed ?_ (by simp only [Act.put, List.setIfInBounds_toArray, List.set_cons_succ, List.set_cons_zero] <;> rfl)) | (go_at_call 9; refine Calls.mono (head_any _) ?_; rintro e w_ ⟨rfl, hb_⟩; replace HB := Lib.hid (HB.out.call hb_); clear hb_) | (go_at_call 10; with_reducible refine Kx.args_gate #[_, _, .int .i64 n, _] ?_; refine Calls.mono (HT1.out _) ?_; rintro e w_ ⟨rfl, hb_⟩; replace HB := Lib.hid (HB.out.call hb_); clear hb_) | (go_at_call 10; refine Calls.mono (HT2.out _) ?_; rintro e w_ ⟨rfl, hb_⟩; replace HB := Lib.hid (HB.out.call hb_); clear hb_) | (go_at_call 13; refine Calls.mono (HA1.out _) ?_; rintro e w_ ⟨rfl, hb_⟩; replace HB := Lib.hid (HB.out.call hb_); clear hb_) | (first | ((with_reducible refine Kx.absorb HB ?_); clear HB; intro w_ HB) | ((with_reducible refine Kx.box_gate ?_); first | (refine Kx.wpList_boxa_x HB rfl _ _ rfl _ rfl ?_; clear HB; intro b_ w_ HB; refine Kx.framed ?_ (by simp only [Act.put, List.setIfInBounds_toArray, List.set_cons_succ, List.set_cons_zero] <;> rfl)) | (refine Kx.wpList_boxt_x HB rfl _ _ rfl _ rfl rfl ?_; clear HB; intro b_ w_ HB; refine Kx.framed ?_ (by simp only [Act.put, List.setIfInBounds_toArray, List.set_cons_succ, List.set_cons_zero] <;> rfl)) | (refine Kx.wpList_box1_x HB rfl _ _ rfl _ rfl rfl ?_; clear HB; intro b_ w_ HB; refine Kx.framed ?_ (by simp only [Act.put, List.setIfInBounds_toArray, List.set_cons_succ, List.set_cons_zero] <;> rfl))) | ((with_reducible refine Kx.alloc_gate ?_); first | (refine Kx.wpList_alloca_x HB rfl _ rfl _ (Try.zeroValue25 _) ?_; clear HB; intro b_ w_ HB; refine Kx.framed ?_ (by simp only [Act.put, List.setIfInBounds_toArray, List.set_cons_succ, List.set_cons_zero] <;> rfl)) | (refine Kx.wpList_alloca_x HB rfl _ rfl _ (Try.zeroValue28 _) ?_; clear HB; intro b_ w_ HB; refine Kx.framed ?_ (by simp only [Act.put, List.setIfInBounds_toArray, List.set_cons_succ, List.set_cons_zero] <;> rfl)) | (refine Kx.wpList_alloc1_x HB rfl _ rfl _ (Try.zeroValue4 _) rfl ?_; clear HB; intro b_ w_ HB; refine Kx.framed ?_ (by simp only [Act.put, List.setIfInBounds_toArray, List.set_cons_succ, List.set_cons_zero] <;> rfl)) | (refine Kx.wpList_alloc1_x HB rfl _ rfl _ (Try.zeroValue3 _) rfl ?_; clear HB; intro b_ w_ HB; refine Kx.framed ?_ (by simp only [Act.put, List.setIfInBounds_toArray, List.set_cons_succ, List.set_cons_zero] <;> rfl)) | (refine Kx.wpList_alloc1_x HB rfl _ rfl _ (Try.zeroValue2 _) rfl ?_; clear HB; intro b_ w_ HB; refine Kx.framed ?_ (by simp only [Act.put, List.setIfInBounds_toArray, List.set_cons_succ, List.set_cons_zero] <;> rfl))) | ((with_reducible refine Kx.loads_gate ?_); first | (refine Kx.wpList_load1_x HB rfl _ _ rfl _ rfl _ (Try.isAgg4 _) _ rfl (Kx.framed ?_ (by simp only [Act.put, List.setIfInBounds_toArray, List.set_cons_succ, List.set_cons_zero] <;> rfl))) | (refine Kx.wpList_load1_x HB rfl _ _ rfl _ rfl _ (Try.isAgg3 _) _ rfl (Kx.framed ?_ (by simp only [Act.put, List.setIfInBounds_toArray, List.set_cons_succ, List.set_cons_zero] <;> rfl))) | (refine Kx.wpList_load1_x HB rfl _ _ rfl _ rfl _ (Try.isAgg2 _) _ rfl (Kx.framed ?_ (by simp only [Act.put, List.setIfInBounds_toArray, List.set_cons_succ, List.set_cons_zero] <;> rfl))) | (refine Kx.wpList_load_x HB rfl _ _ rfl _ rfl _ _ (Try.isAgg25 _) (Try.sizeOf25 _) _ (by first | exact Kx.whole (by rfl) | (simp <;> rfl)) (by rfl) (Kx.framed ?_ (by simp only [Act.put, List.setIfInBounds_toArray, List.set_cons_succ, List.set_cons_zero] <;> rfl))) | (refine Kx.wpList_load_x HB rfl _ _ rfl _ rfl _ _ (Try.isAgg28 _) (Try.sizeOf28 _) _ (by first | exact Kx.whole (by rfl) | (simp <;> rfl)) (by rfl) (Kx.framed ?_ (by simp only [Act.put, List.setIfInBounds_toArray, List.set_cons_succ, List.set_cons_zero] <;> rfl))) | (refine Kx.wpList_old_x HB rfl _ _ rfl _ rfl (Try.isAgg4 _) _ HC.out (Kx.framed ?_ (by simp only [Act.put, List.setIfInBounds_toArray, List.set_cons_succ, List.set_cons_zero] <;> rfl))) | (refine Kx.wpList_old_x HB rfl _ _ rfl _ rfl (Try.isAgg3 _) _ HC.out (Kx.framed ?_ (by simp only [Act.put, List.setIfInBounds_toArray, List.set_cons_succ, List.set_cons_zero] <;> rfl))) | (refine Kx.wpList_old_x HB rfl _ _ rfl _ rfl (Try.isAgg2 _) _ HC.out (Kx.framed ?_ (by simp only [Act.put, List.setIfInBounds_toArray, List.set_cons_succ, List.set_cons_zero] <;> rfl)))) | ((with_reducible refine Kx.loadg_gate ?_); first | (refine Kx.wpList_loadg_x HB _ _ rfl _ rfl _ (Try.isAgg4 _) _ rfl rfl (Kx.framed ?_ (by simp only [Act.put, List.setIfInBounds_toArray, List.set_cons_succ, List.set_cons_zero] <;> rfl))) | (refine Kx.wpList_loadg_x HB _ _ rfl _ rfl _ (Try.isAgg3 _) _ rfl rfl (Kx.framed ?_ (by simp only [Act.put, List.setIfInBounds_toArray, List.set_cons_succ, List.set_cons_zero] <;> rfl))) | (refine Kx.wpList_loadg_x HB _ _ rfl _ rfl _ (Try.isAgg2 _) _ rfl rfl (Kx.framed ?_ (by simp only [Act.put, List.setIfInBounds_toArray, List.set_cons_succ, List.set_cons_zero] <;> rfl))) | (refine Kx.wpList_loadga_x HB _ _ rfl _ rfl _ _ (Try.isAgg25 _) (Try.sizeOf25 _) _ (by first | exact Kx.whole (by rfl) | (simp <;> rfl)) (by rfl) rfl (Kx.framed ?_ (by simp only [Act.put, List.setIfInBounds_toArray, List.set_cons_succ, List.set_cons_zero] <;> rfl))) | (refine Kx.wpList_loadga_x HB _ _ rfl _ rfl _ _ (Try.isAgg28 _) (Try.sizeOf28 _) _ (by first | exact Kx.whole (by rfl) | (simp <;> rfl)) (by rfl) rfl (Kx.framed ?_ (by simp only [Act.put, List.setIfInBounds_toArray, List.set_cons_succ, List.set_cons_zero] <;> rfl))) | (refine Kx.wpList_oldg_x HB _ _ rfl _ rfl (Try.isAgg4 _) _ HC.out rfl (Kx.framed ?_ (by simp only [Act.put, List.setIfInBounds_toArray, List.set_cons_succ, List.set_cons_zero] <;> rfl))) | (refine Kx.wpList_oldg_x HB _ _ rfl _ rfl (Try.isAgg3 _) _ HC.out rfl (Kx.framed ?_ (by simp only [Act.put, List.setIfInBounds_toArray, List.set_cons_succ, List.set_cons_zero] <;> rfl))) | (refine Kx.wpList_oldg_x HB _ _ rfl _ rfl (Try.isAgg2 _) _ HC.out rfl (Kx.framed ?_ (by simp only [Act.put, List.setIfInBounds_toArray, List.set_cons_succ, List.set_cons_zero] <;> rfl)))) | ((with_reducible refine Kx.store_gate ?_); first | (refine Kx.wpList_storewa_x HB rfl rfl _ _ _ rfl _ rfl _ rfl _ (by rfl) (by simp <;> rfl) (by rfl) ?_; clear HB; intro w_ HB) | (refine Kx.wpList_storea_x HB rfl rfl _ _ _ rfl _ rfl _ rfl _ _ (by simp [Kx.splice] <;> rfl) (by simp) (by simp <;> rfl) (by rfl) ?_; clear HB; intro w_ HB) | (refine Kx.wpList_storec_x HB rfl rfl _ _ _ rfl _ rfl rfl _ _ (by simp <;> rfl) (by simp) (by simp <;> rfl) ?_; clear HB; intro w_ HB) | (refine Kx.wpList_storet_x HB rfl rfl _ _ _ rfl _ rfl _ rfl rfl _ _ (by simp <;> rfl) (by simp) (by simp <;> rfl) ?_; clear HB; intro w_ HB) | (refine Kx.wpList_store1_x HB rfl rfl _ _ _ rfl _ rfl _ rfl rfl _ _ (by simp <;> rfl) (by simp) (by simp <;> rfl) ?_; clear HB; intro w_ HB))))
  rcases HO.out with rfl | ⟨rfl, rfl⟩
  · clear HO
    refine Kx.region_x HB (fun i => false) (by kernel_rfl) ?_
    refine anyW_take (i := 0) (v := ?v0_323) (a' := ?a0_323) (by first | exact Kx.bears_x | assumption) rfl (by kernel_rfl) (by kernel_rfl) (by kernel_rfl) (fun _ _ _ h => h) (by kernel_rfl) ?w0_323 ?y0_323 ?f0_323 ?r0_323
    case w0_323 => kernel_rfl
    case y0_323 => (intro w hC; go_simp; try with_reducible rfl)
    case f0_323 => (go_simp; try with_reducible rfl)
    refine anyW_take (i := 1) (v := ?v1_324) (a' := ?a1_324) (by first | exact Kx.bears_x | assumption) rfl (by kernel_rfl) (by kernel_rfl) (by kernel_rfl) (fun _ _ _ h => h) (by kernel_rfl) ?w1_324 ?y1_324 ?f1_324 ?r1_324
    case w1_324 => kernel_rfl
    case y1_324 => (intro w hC; go_simp; try with_reducible rfl)
    case f1_324 => (go_simp; try with_reducible rfl)
    refine anyW_take (i := 2) (v := ?v2_325) (a' := ?a2_325) (by first | exact Kx.bears_x | assumption) rfl (by kernel_rfl) (by kernel_rfl) (by kernel_rfl) (fun _ _ _ h => h) (by kernel_rfl) ?w2_325 ?y2_325 ?f2_325 ?r2_325
    case w2_325 => kernel_rfl
    case y2_325 => (intro w hC; go_simp; try with_reducible rfl)
    case f2_325 => (go_simp; try with_reducible rfl)
    refine anyW_take (i := 3) (v := ?v3_326) (a' := ?a3_326) (by first | exact Kx.bears_x | assumption) rfl (by kernel_rfl) (by kernel_rfl) (by kernel_rfl) (fun _ _ _ h => h) (by kernel_rfl) ?w3_326 ?y3_326 ?f3_326 ?r3_326
    case w3_326 => kernel_rfl
    case y3_326 => (intro w hC; go_simp; try with_reducible rfl)
    case f3_326 => (go_simp; try with_reducible rfl)
    refine anyW_skip (i := 4) (a' := ?a4_327) (by first | exact Kx.bears_x | assumption) rfl (by kernel_rfl) (by kernel_rfl) (by kernel_rfl) (fun _ _ _ h => h) (by kernel_rfl) (by kernel_rfl) ?f4_327 ?r4_327
    case f4_327 => (go_simp; try with_reducible rfl)
    refine anyW_skip (i := 5) (a' := ?a5_328) (by first | exact Kx.bears_x | assumption) rfl (by kernel_rfl) (by kernel_rfl) (by kernel_rfl) (fun _ _ _ h => h) (by kernel_rfl) (by kernel_rfl) ?f5_328 ?r5_328
    case f5_328 => (go_simp; try with_reducible rfl)
    refine anyW_skip (i := 6) (a' := ?a6_329) (by first | exact Kx.bears_x | assumption) rfl (by kernel_rfl) (by kernel_rfl) (by kernel_rfl) (fun _ _ _ h => h) (by kernel_rfl) (by kernel_rfl) ?f6_329 ?r6_329
    case f6_329 => (go_simp; try with_reducible rfl)
    refine anyW_take (i := 7) (v := ?v7_330) (a' := ?a7_330) (by first | exact Kx.bears_x | assumption) rfl (by kernel_rfl) (by kernel_rfl) (by kernel_rfl) (fun _ _ _ h => h) (by kernel_rfl) ?w7_330 ?y7_330 ?f7_330 ?r7_330
    case w7_330 => kernel_rfl
    case y7_330 => (intro w hC; go_simp; try with_reducible rfl)
    case f7_330 => (go_simp; try with_reducible rfl)
    refine anyW_take (i := 8) (v := ?v8_331) (a' := ?a8_331) (by first | exact Kx.bears_x | assumption) rfl (by kernel_rfl) (by kernel_rfl) (by kernel_rfl) (fun _ _ _ h => h) (by kernel_rfl) ?w8_331 ?y8_331 ?f8_331 ?r8_331
    case w8_331 => kernel_rfl
    case y8_331 => (intro w hC; go_simp; try with_reducible rfl)
    case f8_331 => (go_simp; try with_reducible rfl)
    refine anyW_take (i := 9) (v := ?v9_332) (a' := ?a9_332) (by first | exact Kx.bears_x | assumption) rfl (by kernel_rfl) (by kernel_rfl) (by kernel_rfl) (fun _ _ _ h => h) (by kernel_rfl) ?w9_332 ?y9_332 ?f9_332 ?r9_332
    case w9_332 => kernel_rfl
    case y9_332 => (intro w hC; go_simp; try with_reducible rfl)
    case f9_332 => (go_simp; try with_reducible rfl)
    refine anyW_take (i := 10) (v := ?v10_333) (a' := ?a10_333) (by first | exact Kx.bears_x | assumption) rfl (by kernel_rfl) (by kernel_rfl) (by kernel_rfl) (fun _ _ _ h => h) (by kernel_rfl) ?w10_333 ?y10_333 ?f10_333 ?r10_333
    case w10_333 => kernel_rfl
    case y10_333 => (intro W hW; first | (refine Eq.trans (Kx.tells_load1_x hW _ _ rfl _ inferInstance (Try.isAgg4 _) rfl) ?_; with_reducible rfl) | (refine Eq.trans (Kx.tells_load1_x hW _ _ rfl _ inferInstance (Try.isAgg3 _) rfl) ?_; with_reducible rfl) | (refine Eq.trans (Kx.tells_load1_x hW _ _ rfl _ inferInstance (Try.isAgg2 _) rfl) ?_; with_reducible rfl) | (refine Eq.trans (Kx.tells_old_x hW _ rfl (Try.isAgg4 _) HC.out) ?_; with_reducible rfl) | (refine Eq.trans (Kx.tells_old_x hW _ rfl (Try.isAgg3 _) HC.out) ?_; with_reducible rfl) | (refine Eq.trans (Kx.tells_old_x hW _ rfl (Try.isAgg2 _) HC.out) ?_; with_reducible rfl) | (refine Eq.trans (Kx.tells_load_x hW _ _ rfl _ inferInstance _ (Try.isAgg25 _) (Try.sizeOf25 _) _ (by first | exact Kx.whole (by rfl) | (simp <;> rfl)) (by rfl) rfl) ?_; with_reducible rfl) | (refine Eq.trans (Kx.tells_load_x hW _ _ rfl _ inferInstance _ (Try.isAgg28 _) (Try.sizeOf28 _) _ (by first | exact Kx.whole (by rfl) | (simp <;> rfl)) (by rfl) rfl) ?_; with_reducible rfl))
    case f10_333 => (go_simp; try with_reducible rfl)
    refine anyW_take (i := 11) (v := ?v11_334) (a' := ?a11_334) (by first | exact Kx.bears_x | assumption) rfl (by kernel_rfl) (by kernel_rfl) (by kernel_rfl) (fun _ _ _ h => h) (by kernel_rfl) ?w11_334 ?y11_334 ?f11_334 ?r11_334
    case w11_334 => kernel_rfl
    case y11_334 => (intro W hW; first | (refine Eq.trans (Kx.tells_load1_x hW _ _ rfl _ inferInstance (Try.isAgg4 _) rfl) ?_; with_reducible rfl) | (refine Eq.trans (Kx.tells_load1_x hW _ _ rfl _ inferInstance (Try.isAgg3 _) rfl) ?_; with_reducible rfl) | (refine Eq.trans (Kx.tells_load1_x hW _ _ rfl _ inferInstance (Try.isAgg2 _) rfl) ?_; with_reducible rfl) | (refine Eq.trans (Kx.tells_old_x hW _ rfl (Try.isAgg4 _) HC.out) ?_; with_reducible rfl) | (refine Eq.trans (Kx.tells_old_x hW _ rfl (Try.isAgg3 _) HC.out) ?_; with_reducible rfl) | (refine Eq.trans (Kx.tells_old_x hW _ rfl (Try.isAgg2 _) HC.out) ?_; with_reducible rfl) | (refine Eq.trans (Kx.tells_load_x hW _ _ rfl _ inferInstance _ (Try.isAgg25 _) (Try.sizeOf25 _) _ (by first | exact Kx.whole (by rfl) | (simp <;> rfl)) (by rfl) rfl) ?_; with_reducible rfl) | (refine Eq.trans (Kx.tells_load_x hW _ _ rfl _ inferInstance _ (Try.isAgg28 _) (Try.sizeOf28 _) _ (by first | exact Kx.whole (by rfl) | (simp <;> rfl)) (by rfl) rfl) ?_; with_reducible rfl))
    case f11_334 => (go_simp; try with_reducible rfl)
    refine anyW_call (i := 12) (v := ?v12_335) (f := ?g12_335) (args := ?s12_335) (a' := ?a12_335) (by first | exact Kx.bears_x | assumption) rfl (by kernel_rfl) (by kernel_rfl) (by kernel_rfl) (fun _ _ _ h => h) (by kernel_rfl) ?c12_335 ?w12_335 ?y12_335 ?f12_335 ?r12_335
    case w12_335 => kernel_rfl
    case y12_335 => (intro W hW; go_simp; first | (refine ⟨?_, ?_⟩ <;> with_reducible rfl) | with_reducible rfl)
    case c12_335 => (intro W hW; refine Calls.mono (PSame_self ⟨_, _, _, _, ⟨_, _⟩⟩ _) ?_; rintro e w_ ⟨rfl, hb_⟩; refine ⟨?_, by first | exact hb_ | exact hb_ ▸ Below.refl _ _⟩; with_reducible rfl)
    case f12_335 => (go_simp; try with_reducible rfl)
    refine anyW_take (i := 13) (v := ?v13_336) (a' := ?a13_336) (by first | exact Kx.bears_x | assumption) rfl (by kernel_rfl) (by kernel_rfl) (by kernel_rfl) (fun _ _ _ h => h) (by kernel_rfl) ?w13_336 ?y13_336 ?f13_336 ?r13_336
    case w13_336 => kernel_rfl
    case y13_336 => (intro w hC; go_simp; try with_reducible rfl)
    case f13_336 => (go_simp; try with_reducible rfl)
    refine anyW_take (i := 14) (v := ?v14_337) (a' := ?a14_337) (by first | exact Kx.bears_x | assumption) rfl (by kernel_rfl) (by kernel_rfl) (by kernel_rfl) (fun _ _ _ h => h) (by kernel_rfl) ?w14_337 ?y14_337 ?f14_337 ?r14_337
    case w14_337 => kernel_rfl
    case y14_337 => (intro w hC; go_simp; try with_reducible rfl)
    case f14_337 => (go_simp; try with_reducible rfl)
    refine anyW_take (i := 15) (v := ?v15_338) (a' := ?a15_338) (by first | exact Kx.bears_x | assumption) rfl (by kernel_rfl) (by kernel_rfl) (by kernel_rfl) (fun _ _ _ h => h) (by kernel_rfl) ?w15_338 ?y15_338 ?f15_338 ?r15_338
    case w15_338 => kernel_rfl
    case y15_338 => (intro W hW; first | (refine Eq.trans (Kx.tells_load1_x hW _ _ rfl _ inferInstance (Try.isAgg4 _) rfl) ?_; with_reducible rfl) | (refine Eq.trans (Kx.tells_load1_x hW _ _ rfl _ inferInstance (Try.isAgg3 _) rfl) ?_; with_reducible rfl) | (refine Eq.trans (Kx.tells_load1_x hW _ _ rfl _ inferInstance (Try.isAgg2 _) rfl) ?_; with_reducible rfl) | (refine Eq.trans (Kx.tells_old_x hW _ rfl (Try.isAgg4 _) HC.out) ?_; with_reducible rfl) | (refine Eq.trans (Kx.tells_old_x hW _ rfl (Try.isAgg3 _) HC.out) ?_; with_reducible rfl) | (refine Eq.trans (Kx.tells_old_x hW _ rfl (Try.isAgg2 _) HC.out) ?_; with_reducible rfl) | (refine Eq.trans (Kx.tells_load_x hW _ _ rfl _ inferInstance _ (Try.isAgg25 _) (Try.sizeOf25 _) _ (by first | exact Kx.whole (by rfl) | (simp <;> rfl)) (by rfl) rfl) ?_; with_reducible rfl) | (refine Eq.trans (Kx.tells_load_x hW _ _ rfl _ inferInstance _ (Try.isAgg28 _) (Try.sizeOf28 _) _ (by first | exact Kx.whole (by rfl) | (simp <;> rfl)) (by rfl) rfl) ?_; with_reducible rfl))
    case f15_338 => (go_simp; try with_reducible rfl)
    refine anyW_take (i := 16) (v := ?v16_339) (a' := ?a16_339) (by first | exact Kx.bears_x | assumption) rfl (by kernel_rfl) (by kernel_rfl) (by kernel_rfl) (fun _ _ _ h => h) (by kernel_rfl) ?w16_339 ?y16_339 ?f16_339 ?r16_339
    case w16_339 => kernel_rfl
    case y16_339 => (intro W hW; first | (refine Eq.trans (Kx.tells_load1_x hW _ _ rfl _ inferInstance (Try.isAgg4 _) rfl) ?_; with_reducible rfl) | (refine Eq.trans (Kx.tells_load1_x hW _ _ rfl _ inferInstance (Try.isAgg3 _) rfl) ?_; with_reducible rfl) | (refine Eq.trans (Kx.tells_load1_x hW _ _ rfl _ inferInstance (Try.isAgg2 _) rfl) ?_; with_reducible rfl) | (refine Eq.trans (Kx.tells_old_x hW _ rfl (Try.isAgg4 _) HC.out) ?_; with_reducible rfl) | (refine Eq.trans (Kx.tells_old_x hW _ rfl (Try.isAgg3 _) HC.out) ?_; with_reducible rfl) | (refine Eq.trans (Kx.tells_old_x hW _ rfl (Try.isAgg2 _) HC.out) ?_; with_reducible rfl) | (refine Eq.trans (Kx.tells_load_x hW _ _ rfl _ inferInstance _ (Try.isAgg25 _) (Try.sizeOf25 _) _ (by first | exact Kx.whole (by rfl) | (simp <;> rfl)) (by rfl) rfl) ?_; with_reducible rfl) | (refine Eq.trans (Kx.tells_load_x hW _ _ rfl _ inferInstance _ (Try.isAgg28 _) (Try.sizeOf28 _) _ (by first | exact Kx.whole (by rfl) | (simp <;> rfl)) (by rfl) rfl) ?_; with_reducible rfl))
    case f16_339 => (go_simp; try with_reducible rfl)
    refine anyW_take (i := 17) (v := ?v17_340) (a' := ?a17_340) (by first | exact Kx.bears_x | assumption) rfl (by kernel_rfl) (by kernel_rfl) (by kernel_rfl) (fun _ _ _ h => h) (by kernel_rfl) ?w17_340 ?y17_340 ?f17_340 ?r17_340
    case w17_340 => kernel_rfl
    case y17_340 => (intro w hC; go_simp; try with_reducible rfl)
    case f17_340 => (go_simp; try with_reducible rfl)
    refine anyW_take (i := 18) (v := ?v18_341) (a' := ?a18_341) (by first | exact Kx.bears_x | assumption) rfl (by kernel_rfl) (by kernel_rfl) (by kernel_rfl) (fun _ _ _ h => h) (by kernel_rfl) ?w18_341 ?y18_341 ?f18_341 ?r18_341
    case w18_341 => kernel_rfl
    case y18_341 => (intro W hW; first | (refine Eq.trans (Kx.tells_load1_x hW _ _ rfl _ inferInstance (Try.isAgg4 _) rfl) ?_; with_reducible rfl) | (refine Eq.trans (Kx.tells_load1_x hW _ _ rfl _ inferInstance (Try.isAgg3 _) rfl) ?_; with_reducible rfl) | (refine Eq.trans (Kx.tells_load1_x hW _ _ rfl _ inferInstance (Try.isAgg2 _) rfl) ?_; with_reducible rfl) | (refine Eq.trans (Kx.tells_old_x hW _ rfl (Try.isAgg4 _) HC.out) ?_; with_reducible rfl) | (refine Eq.trans (Kx.tells_old_x hW _ rfl (Try.isAgg3 _) HC.out) ?_; with_reducible rfl) | (refine Eq.trans (Kx.tells_old_x hW _ rfl (Try.isAgg2 _) HC.out) ?_; with_reducible rfl) | (refine Eq.trans (Kx.tells_load_x hW _ _ rfl _ inferInstance _ (Try.isAgg25 _) (Try.sizeOf25 _) _ (by first | exact Kx.whole (by rfl) | (simp <;> rfl)) (by rfl) rfl) ?_; with_reducible rfl) | (refine Eq.trans (Kx.tells_load_x hW _ _ rfl _ inferInstance _ (Try.isAgg28 _) (Try.sizeOf28 _) _ (by first | exact Kx.whole (by rfl) | (simp <;> rfl)) (by rfl) rfl) ?_; with_reducible rfl))
    case f18_341 => (go_simp; try with_reducible rfl)
    refine anyW_call (i := 19) (v := ?v19_342) (f := ?g19_342) (args := ?s19_342) (a' := ?a19_342) (by first | exact Kx.bears_x | assumption) rfl (by kernel_rfl) (by kernel_rfl) (by kernel_rfl) (fun _ _ _ h => h) (by kernel_rfl) ?c19_342 ?w19_342 ?y19_342 ?f19_342 ?r19_342
    case w19_342 => kernel_rfl
    case y19_342 => (intro W hW; go_simp; first | (refine ⟨?_, ?_⟩ <;> with_reducible rfl) | with_reducible rfl)
    case c19_342 => (intro W hW; refine Calls.mono (HA2.out _) ?_; rintro e w_ ⟨rfl, hb_⟩; refine ⟨?_, by first | exact hb_ | exact hb_ ▸ Below.refl _ _⟩; with_reducible rfl)
    case f19_342 => (go_simp; try with_reducible rfl)
    refine anyW_take (i := 20) (v := ?v20_343) (a' := ?a20_343) (by first | exact Kx.bears_x | assumption) rfl (by kernel_rfl) (by kernel_rfl) (by kernel_rfl) (fun _ _ _ h => h) (by kernel_rfl) ?w20_343 ?y20_343 ?f20_343 ?r20_343
    case w20_343 => kernel_rfl
    case y20_343 => (intro W hW; first | (refine Eq.trans (Kx.tells_load1_x hW _ _ rfl _ inferInstance (Try.isAgg4 _) rfl) ?_; with_reducible rfl) | (refine Eq.trans (Kx.tells_load1_x hW _ _ rfl _ inferInstance (Try.isAgg3 _) rfl) ?_; with_reducible rfl) | (refine Eq.trans (Kx.tells_load1_x hW _ _ rfl _ inferInstance (Try.isAgg2 _) rfl) ?_; with_reducible rfl) | (refine Eq.trans (Kx.tells_old_x hW _ rfl (Try.isAgg4 _) HC.out) ?_; with_reducible rfl) | (refine Eq.trans (Kx.tells_old_x hW _ rfl (Try.isAgg3 _) HC.out) ?_; with_reducible rfl) | (refine Eq.trans (Kx.tells_old_x hW _ rfl (Try.isAgg2 _) HC.out) ?_; with_reducible rfl) | (refine Eq.trans (Kx.tells_load_x hW _ _ rfl _ inferInstance _ (Try.isAgg25 _) (Try.sizeOf25 _) _ (by first | exact Kx.whole (by rfl) | (simp <;> rfl)) (by rfl) rfl) ?_; with_reducible rfl) | (refine Eq.trans (Kx.tells_load_x hW _ _ rfl _ inferInstance _ (Try.isAgg28 _) (Try.sizeOf28 _) _ (by first | exact Kx.whole (by rfl) | (simp <;> rfl)) (by rfl) rfl) ?_; with_reducible rfl))
    case f20_343 => (go_simp; try with_reducible rfl)
    refine anyW_call (i := 21) (v := ?v21_344) (f := ?g21_344) (args := ?s21_344) (a' := ?a21_344) (by first | exact Kx.bears_x | assumption) rfl (by kernel_rfl) (by kernel_rfl) (by kernel_rfl) (fun _ _ _ h => h) (by kernel_rfl) ?c21_344 ?w21_344 ?y21_344 ?f21_344 ?r21_344
    case w21_344 => kernel_rfl
    case y21_344 => (intro W hW; go_simp; first | (refine ⟨?_, ?_⟩ <;> with_reducible rfl) | with_reducible rfl)
    case c21_344 => (intro W hW; refine Calls.mono (HS.out _) ?_; rintro e w_ ⟨rfl, hb_⟩; refine ⟨?_, by first | exact hb_ | exact hb_ ▸ Below.refl _ _⟩; with_reducible rfl)
    case f21_344 => (go_simp; try with_reducible rfl)
    refine anyW_take (i := 22) (v := ?v22_345) (a' := ?a22_345) (by first | exact Kx.bears_x | assumption) rfl (by kernel_rfl) (by kernel_rfl) (by kernel_rfl) (fun _ _ _ h => h) (by kernel_rfl) ?w22_345 ?y22_345 ?f22_345 ?r22_345
    case w22_345 => kernel_rfl
    case y22_345 => (intro w hC; go_simp; try with_reducible rfl)
    case f22_345 => (go_simp; try with_reducible rfl)
    refine anyW_take (i := 23) (v := ?v23_346) (a' := ?a23_346) (by first | exact Kx.bears_x | assumption) rfl (by kernel_rfl) (by kernel_rfl) (by kernel_rfl) (fun _ _ _ h => h) (by kernel_rfl) ?w23_346 ?y23_346 ?f23_346 ?r23_346
    case w23_346 => kernel_rfl
    case y23_346 => (intro w hC; go_simp; try with_reducible rfl)
    case f23_346 => (go_simp; try with_reducible rfl)
    refine anyW_done (by kernel_rfl) ?_
    clear HB
    intro w_ HB_
    have HB := Lib.hid HB_
    clear HB_
    go_wp2
    go_ret
    exact ⟨rfl, HB.out.below⟩
  · clear HO
    refine Kx.region_x HB (fun i => false) (by kernel_rfl) ?_
    refine anyW_take (i := 0) (v := ?v0_347) (a' := ?a0_347) (by first | exact Kx.bears_x | assumption) rfl (by kernel_rfl) (by kernel_rfl) (by kernel_rfl) (fun _ _ _ h => h) (by kernel_rfl) ?w0_347 ?y0_347 ?f0_347 ?r0_347
    case w0_347 => kernel_rfl
    case y0_347 => (intro w hC; go_simp; try with_reducible rfl)
    case f0_347 => (go_simp; try with_reducible rfl)
    refine anyW_take (i := 1) (v := ?v1_348) (a' := ?a1_348) (by first | exact Kx.bears_x | assumption) rfl (by kernel_rfl) (by kernel_rfl) (by kernel_rfl) (fun _ _ _ h => h) (by kernel_rfl) ?w1_348 ?y1_348 ?f1_348 ?r1_348
    case w1_348 => kernel_rfl
    case y1_348 => (intro w hC; go_simp; try with_reducible rfl)
    case f1_348 => (go_simp; try with_reducible rfl)
    refine anyW_take (i := 2) (v := ?v2_349) (a' := ?a2_349) (by first | exact Kx.bears_x | assumption) rfl (by kernel_rfl) (by kernel_rfl) (by kernel_rfl) (fun _ _ _ h => h) (by kernel_rfl) ?w2_349 ?y2_349 ?f2_349 ?r2_349
    case w2_349 => kernel_rfl
    case y2_349 => (intro w hC; go_simp; try with_reducible rfl)
    case f2_349 => (go_simp; try with_reducible rfl)
    refine anyW_take (i := 3) (v := ?v3_350) (a' := ?a3_350) (by first | exact Kx.bears_x | assumption) rfl (by kernel_rfl) (by kernel_rfl) (by kernel_rfl) (fun _ _ _ h => h) (by kernel_rfl) ?w3_350 ?y3_350 ?f3_350 ?r3_350
    case w3_350 => kernel_rfl
    case y3_350 => (intro w hC; go_simp; try with_reducible rfl)
    case f3_350 => (go_simp; try with_reducible rfl)
    refine anyW_take (i := 4) (v := ?v4_351) (a' := ?a4_351) (by first | exact Kx.bears_x | assumption) rfl (by kernel_rfl) (by kernel_rfl) (by kernel_rfl) (fun _ _ _ h => h) (by kernel_rfl) ?w4_351 ?y4_351 ?f4_351 ?r4_351
    case w4_351 => kernel_rfl
    case y4_351 => (intro w hC; go_simp; try with_reducible rfl)
    case f4_351 => (go_simp; try with_reducible rfl)
    refine anyW_take (i := 5) (v := ?v5_352) (a' := ?a5_352) (by first | exact Kx.bears_x | assumption) rfl (by kernel_rfl) (by kernel_rfl) (by kernel_rfl) (fun _ _ _ h => h) (by kernel_rfl) ?w5_352 ?y5_352 ?f5_352 ?r5_352
    case w5_352 => kernel_rfl
    case y5_352 => (intro W hW; first | (refine Eq.trans (Kx.tells_load1_x hW _ _ rfl _ inferInstance (Try.isAgg4 _) rfl) ?_; with_reducible rfl) | (refine Eq.trans (Kx.tells_load1_x hW _ _ rfl _ inferInstance (Try.isAgg3 _) rfl) ?_; with_reducible rfl) | (refine Eq.trans (Kx.tells_load1_x hW _ _ rfl _ inferInstance (Try.isAgg2 _) rfl) ?_; with_reducible rfl) | (refine Eq.trans (Kx.tells_old_x hW _ rfl (Try.isAgg4 _) HC.out) ?_; with_reducible rfl) | (refine Eq.trans (Kx.tells_old_x hW _ rfl (Try.isAgg3 _) HC.out) ?_; with_reducible rfl) | (refine Eq.trans (Kx.tells_old_x hW _ rfl (Try.isAgg2 _) HC.out) ?_; with_reducible rfl) | (refine Eq.trans (Kx.tells_load_x hW _ _ rfl _ inferInstance _ (Try.isAgg25 _) (Try.sizeOf25 _) _ (by first | exact Kx.whole (by rfl) | (simp <;> rfl)) (by rfl) rfl) ?_; with_reducible rfl) | (refine Eq.trans (Kx.tells_load_x hW _ _ rfl _ inferInstance _ (Try.isAgg28 _) (Try.sizeOf28 _) _ (by first | exact Kx.whole (by rfl) | (simp <;> rfl)) (by rfl) rfl) ?_; with_reducible rfl))
    case f5_352 => (go_simp; try with_reducible rfl)
    refine anyW_take (i := 6) (v := ?v6_353) (a' := ?a6_353) (by first | exact Kx.bears_x | assumption) rfl (by kernel_rfl) (by kernel_rfl) (by kernel_rfl) (fun _ _ _ h => h) (by kernel_rfl) ?w6_353 ?y6_353 ?f6_353 ?r6_353
    case w6_353 => kernel_rfl
    case y6_353 => (intro w hC; go_simp; try with_reducible rfl)
    case f6_353 => (go_simp; try with_reducible rfl)
    refine anyW_take (i := 7) (v := ?v7_354) (a' := ?a7_354) (by first | exact Kx.bears_x | assumption) rfl (by kernel_rfl) (by kernel_rfl) (by kernel_rfl) (fun _ _ _ h => h) (by kernel_rfl) ?w7_354 ?y7_354 ?f7_354 ?r7_354
    case w7_354 => kernel_rfl
    case y7_354 => (intro w hC; go_simp; try with_reducible rfl)
    case f7_354 => (go_simp; try with_reducible rfl)
    refine anyW_take (i := 8) (v := ?v8_355) (a' := ?a8_355) (by first | exact Kx.bears_x | assumption) rfl (by kernel_rfl) (by kernel_rfl) (by kernel_rfl) (fun _ _ _ h => h) (by kernel_rfl) ?w8_355 ?y8_355 ?f8_355 ?r8_355
    case w8_355 => kernel_rfl
    case y8_355 => (intro w hC; go_simp; try with_reducible rfl)
    case f8_355 => (go_simp; try with_reducible rfl)
    refine anyW_take (i := 9) (v := ?v9_356) (a' := ?a9_356) (by first | exact Kx.bears_x | assumption) rfl (by kernel_rfl) (by kernel_rfl) (by kernel_rfl) (fun _ _ _ h => h) (by kernel_rfl) ?w9_356 ?y9_356 ?f9_356 ?r9_356
    case w9_356 => kernel_rfl
    case y9_356 => (intro w hC; go_simp; try with_reducible rfl)
    case f9_356 => (go_simp; try with_reducible rfl)
    refine anyW_take (i := 10) (v := ?v10_357) (a' := ?a10_357) (by first | exact Kx.bears_x | assumption) rfl (by kernel_rfl) (by kernel_rfl) (by kernel_rfl) (fun _ _ _ h => h) (by kernel_rfl) ?w10_357 ?y10_357 ?f10_357 ?r10_357
    case w10_357 => kernel_rfl
    case y10_357 => (intro W hW; first | (refine Eq.trans (Kx.tells_load1_x hW _ _ rfl _ inferInstance (Try.isAgg4 _) rfl) ?_; with_reducible rfl) | (refine Eq.trans (Kx.tells_load1_x hW _ _ rfl _ inferInstance (Try.isAgg3 _) rfl) ?_; with_reducible rfl) | (refine Eq.trans (Kx.tells_load1_x hW _ _ rfl _ inferInstance (Try.isAgg2 _) rfl) ?_; with_reducible rfl) | (refine Eq.trans (Kx.tells_old_x hW _ rfl (Try.isAgg4 _) HC.out) ?_; with_reducible rfl) | (refine Eq.trans (Kx.tells_old_x hW _ rfl (Try.isAgg3 _) HC.out) ?_; with_reducible rfl) | (refine Eq.trans (Kx.tells_old_x hW _ rfl (Try.isAgg2 _) HC.out) ?_; with_reducible rfl) | (refine Eq.trans (Kx.tells_load_x hW _ _ rfl _ inferInstance _ (Try.isAgg25 _) (Try.sizeOf25 _) _ (by first | exact Kx.whole (by rfl) | (simp <;> rfl)) (by rfl) rfl) ?_; with_reducible rfl) | (refine Eq.trans (Kx.tells_load_x hW _ _ rfl _ inferInstance _ (Try.isAgg28 _) (Try.sizeOf28 _) _ (by first | exact Kx.whole (by rfl) | (simp <;> rfl)) (by rfl) rfl) ?_; with_reducible rfl))
    case f10_357 => (go_simp; try with_reducible rfl)
    refine anyW_take (i := 11) (v := ?v11_358) (a' := ?a11_358) (by first | exact Kx.bears_x | assumption) rfl (by kernel_rfl) (by kernel_rfl) (by kernel_rfl) (fun _ _ _ h => h) (by kernel_rfl) ?w11_358 ?y11_358 ?f11_358 ?r11_358
    case w11_358 => kernel_rfl
    case y11_358 => (intro W hW; first | (refine Eq.trans (Kx.tells_load1_x hW _ _ rfl _ inferInstance (Try.isAgg4 _) rfl) ?_; with_reducible rfl) | (refine Eq.trans (Kx.tells_load1_x hW _ _ rfl _ inferInstance (Try.isAgg3 _) rfl) ?_; with_reducible rfl) | (refine Eq.trans (Kx.tells_load1_x hW _ _ rfl _ inferInstance (Try.isAgg2 _) rfl) ?_; with_reducible rfl) | (refine Eq.trans (Kx.tells_old_x hW _ rfl (Try.isAgg4 _) HC.out) ?_; with_reducible rfl) | (refine Eq.trans (Kx.tells_old_x hW _ rfl (Try.isAgg3 _) HC.out) ?_; with_reducible rfl) | (refine Eq.trans (Kx.tells_old_x hW _ rfl (Try.isAgg2 _) HC.out) ?_; with_reducible rfl) | (refine Eq.trans (Kx.tells_load_x hW _ _ rfl _ inferInstance _ (Try.isAgg25 _) (Try.sizeOf25 _) _ (by first | exact Kx.whole (by rfl) | (simp <;> rfl)) (by rfl) rfl) ?_; with_reducible rfl) | (refine Eq.trans (Kx.tells_load_x hW _ _ rfl _ inferInstance _ (Try.isAgg28 _) (Try.sizeOf28 _) _ (by first | exact Kx.whole (by rfl) | (simp <;> rfl)) (by rfl) rfl) ?_; with_reducible rfl))
    case f11_358 => (go_simp; try with_reducible rfl)
    refine anyW_call (i := 12) (v := ?v12_359) (f := ?g12_359) (args := ?s12_359) (a' := ?a12_359) (by first | exact Kx.bears_x | assumption) rfl (by kernel_rfl) (by kernel_rfl) (by kernel_rfl) (fun _ _ _ h => h) (by kernel_rfl) ?c12_359 ?w12_359 ?y12_359 ?f12_359 ?r12_359
    case w12_359 => kernel_rfl
    case y12_359 => (intro W hW; go_simp; first | (refine ⟨?_, ?_⟩ <;> with_reducible rfl) | with_reducible rfl)
    case c12_359 => (intro W hW; refine Calls.mono (PSame_self ⟨_, _, _, _, ⟨_, _⟩⟩ _) ?_; rintro e w_ ⟨rfl, hb_⟩; refine ⟨?_, by first | exact hb_ | exact hb_ ▸ Below.refl _ _⟩; with_reducible rfl)
    case f12_359 => (go_simp; try with_reducible rfl)
    refine anyW_take (i := 13) (v := ?v13_360) (a' := ?a13_360) (by first | exact Kx.bears_x | assumption) rfl (by kernel_rfl) (by kernel_rfl) (by kernel_rfl) (fun _ _ _ h => h) (by kernel_rfl) ?w13_360 ?y13_360 ?f13_360 ?r13_360
    case w13_360 => kernel_rfl
    case y13_360 => (intro w hC; go_simp; try with_reducible rfl)
    case f13_360 => (go_simp; try with_reducible rfl)
    refine anyW_take (i := 14) (v := ?v14_361) (a' := ?a14_361) (by first | exact Kx.bears_x | assumption) rfl (by kernel_rfl) (by kernel_rfl) (by kernel_rfl) (fun _ _ _ h => h) (by kernel_rfl) ?w14_361 ?y14_361 ?f14_361 ?r14_361
    case w14_361 => kernel_rfl
    case y14_361 => (intro w hC; go_simp; try with_reducible rfl)
    case f14_361 => (go_simp; try with_reducible rfl)
    refine anyW_take (i := 15) (v := ?v15_362) (a' := ?a15_362) (by first | exact Kx.bears_x | assumption) rfl (by kernel_rfl) (by kernel_rfl) (by kernel_rfl) (fun _ _ _ h => h) (by kernel_rfl) ?w15_362 ?y15_362 ?f15_362 ?r15_362
    case w15_362 => kernel_rfl
    case y15_362 => (intro W hW; first | (refine Eq.trans (Kx.tells_load1_x hW _ _ rfl _ inferInstance (Try.isAgg4 _) rfl) ?_; with_reducible rfl) | (refine Eq.trans (Kx.tells_load1_x hW _ _ rfl _ inferInstance (Try.isAgg3 _) rfl) ?_; with_reducible rfl) | (refine Eq.trans (Kx.tells_load1_x hW _ _ rfl _ inferInstance (Try.isAgg2 _) rfl) ?_; with_reducible rfl) | (refine Eq.trans (Kx.tells_old_x hW _ rfl (Try.isAgg4 _) HC.out) ?_; with_reducible rfl) | (refine Eq.trans (Kx.tells_old_x hW _ rfl (Try.isAgg3 _) HC.out) ?_; with_reducible rfl) | (refine Eq.trans (Kx.tells_old_x hW _ rfl (Try.isAgg2 _) HC.out) ?_; with_reducible rfl) | (refine Eq.trans (Kx.tells_load_x hW _ _ rfl _ inferInstance _ (Try.isAgg25 _) (Try.sizeOf25 _) _ (by first | exact Kx.whole (by rfl) | (simp <;> rfl)) (by rfl) rfl) ?_; with_reducible rfl) | (refine Eq.trans (Kx.tells_load_x hW _ _ rfl _ inferInstance _ (Try.isAgg28 _) (Try.sizeOf28 _) _ (by first | exact Kx.whole (by rfl) | (simp <;> rfl)) (by rfl) rfl) ?_; with_reducible rfl))
    case f15_362 => (go_simp; try with_reducible rfl)
    refine anyW_take (i := 16) (v := ?v16_363) (a' := ?a16_363) (by first | exact Kx.bears_x | assumption) rfl (by kernel_rfl) (by kernel_rfl) (by kernel_rfl) (fun _ _ _ h => h) (by kernel_rfl) ?w16_363 ?y16_363 ?f16_363 ?r16_363
    case w16_363 => kernel_rfl
    case y16_363 => (intro W hW; first | (refine Eq.trans (Kx.tells_load1_x hW _ _ rfl _ inferInstance (Try.isAgg4 _) rfl) ?_; with_reducible rfl) | (refine Eq.trans (Kx.tells_load1_x hW _ _ rfl _ inferInstance (Try.isAgg3 _) rfl) ?_; with_reducible rfl) | (refine Eq.trans (Kx.tells_load1_x hW _ _ rfl _ inferInstance (Try.isAgg2 _) rfl) ?_; with_reducible rfl) | (refine Eq.trans (Kx.tells_old_x hW _ rfl (Try.isAgg4 _) HC.out) ?_; with_reducible rfl) | (refine Eq.trans (Kx.tells_old_x hW _ rfl (Try.isAgg3 _) HC.out) ?_; with_reducible rfl) | (refine Eq.trans (Kx.tells_old_x hW _ rfl (Try.isAgg2 _) HC.out) ?_; with_reducible rfl) | (refine Eq.trans (Kx.tells_load_x hW _ _ rfl _ inferInstance _ (Try.isAgg25 _) (Try.sizeOf25 _) _ (by first | exact Kx.whole (by rfl) | (simp <;> rfl)) (by rfl) rfl) ?_; with_reducible rfl) | (refine Eq.trans (Kx.tells_load_x hW _ _ rfl _ inferInstance _ (Try.isAgg28 _) (Try.sizeOf28 _) _ (by first | exact Kx.whole (by rfl) | (simp <;> rfl)) (by rfl) rfl) ?_; with_reducible rfl))
    case f16_363 => (go_simp; try with_reducible rfl)
    refine anyW_take (i := 17) (v := ?v17_364) (a' := ?a17_364) (by first | exact Kx.bears_x | assumption) rfl (by kernel_rfl) (by kernel_rfl) (by kernel_rfl) (fun _ _ _ h => h) (by kernel_rfl) ?w17_364 ?y17_364 ?f17_364 ?r17_364
    case w17_364 => kernel_rfl
    case y17_364 => (intro w hC; go_simp; try with_reducible rfl)
    case f17_364 => (go_simp; try with_reducible rfl)
    refine anyW_take (i := 18) (v := ?v18_365) (a' := ?a18_365) (by first | exact Kx.bears_x | assumption) rfl (by kernel_rfl) (by kernel_rfl) (by kernel_rfl) (fun _ _ _ h => h) (by kernel_rfl) ?w18_365 ?y18_365 ?f18_365 ?r18_365
    case w18_365 => kernel_rfl
    case y18_365 => (intro W hW; first | (refine Eq.trans (Kx.tells_load1_x hW _ _ rfl _ inferInstance (Try.isAgg4 _) rfl) ?_; with_reducible rfl) | (refine Eq.trans (Kx.tells_load1_x hW _ _ rfl _ inferInstance (Try.isAgg3 _) rfl) ?_; with_reducible rfl) | (refine Eq.trans (Kx.tells_load1_x hW _ _ rfl _ inferInstance (Try.isAgg2 _) rfl) ?_; with_reducible rfl) | (refine Eq.trans (Kx.tells_old_x hW _ rfl (Try.isAgg4 _) HC.out) ?_; with_reducible rfl) | (refine Eq.trans (Kx.tells_old_x hW _ rfl (Try.isAgg3 _) HC.out) ?_; with_reducible rfl) | (refine Eq.trans (Kx.tells_old_x hW _ rfl (Try.isAgg2 _) HC.out) ?_; with_reducible rfl) | (refine Eq.trans (Kx.tells_load_x hW _ _ rfl _ inferInstance _ (Try.isAgg25 _) (Try.sizeOf25 _) _ (by first | exact Kx.whole (by rfl) | (simp <;> rfl)) (by rfl) rfl) ?_; with_reducible rfl) | (refine Eq.trans (Kx.tells_load_x hW _ _ rfl _ inferInstance _ (Try.isAgg28 _) (Try.sizeOf28 _) _ (by first | exact Kx.whole (by rfl) | (simp <;> rfl)) (by rfl) rfl) ?_; with_reducible rfl))
    case f18_365 => (go_simp; try with_reducible rfl)
    refine anyW_call (i := 19) (v := ?v19_366) (f := ?g19_366) (args := ?s19_366) (a' := ?a19_366) (by first | exact Kx.bears_x | assumption) rfl (by kernel_rfl) (by kernel_rfl) (by kernel_rfl) (fun _ _ _ h => h) (by kernel_rfl) ?c19_366 ?w19_366 ?y19_366 ?f19_366 ?r19_366
    case w19_366 => kernel_rfl
    case y19_366 => (intro W hW; go_simp; first | (refine ⟨?_, ?_⟩ <;> with_reducible rfl) | with_reducible rfl)
    case c19_366 => (intro W hW; refine Calls.mono (HA2.out _) ?_; rintro e w_ ⟨rfl, hb_⟩; refine ⟨?_, by first | exact hb_ | exact hb_ ▸ Below.refl _ _⟩; with_reducible rfl)
    case f19_366 => (go_simp; try with_reducible rfl)
    refine anyW_take (i := 20) (v := ?v20_367) (a' := ?a20_367) (by first | exact Kx.bears_x | assumption) rfl (by kernel_rfl) (by kernel_rfl) (by kernel_rfl) (fun _ _ _ h => h) (by kernel_rfl) ?w20_367 ?y20_367 ?f20_367 ?r20_367
    case w20_367 => kernel_rfl
    case y20_367 => (intro W hW; first | (refine Eq.trans (Kx.tells_load1_x hW _ _ rfl _ inferInstance (Try.isAgg4 _) rfl) ?_; with_reducible rfl) | (refine Eq.trans (Kx.tells_load1_x hW _ _ rfl _ inferInstance (Try.isAgg3 _) rfl) ?_; with_reducible rfl) | (refine Eq.trans (Kx.tells_load1_x hW _ _ rfl _ inferInstance (Try.isAgg2 _) rfl) ?_; with_reducible rfl) | (refine Eq.trans (Kx.tells_old_x hW _ rfl (Try.isAgg4 _) HC.out) ?_; with_reducible rfl) | (refine Eq.trans (Kx.tells_old_x hW _ rfl (Try.isAgg3 _) HC.out) ?_; with_reducible rfl) | (refine Eq.trans (Kx.tells_old_x hW _ rfl (Try.isAgg2 _) HC.out) ?_; with_reducible rfl) | (refine Eq.trans (Kx.tells_load_x hW _ _ rfl _ inferInstance _ (Try.isAgg25 _) (Try.sizeOf25 _) _ (by first | exact Kx.whole (by rfl) | (simp <;> rfl)) (by rfl) rfl) ?_; with_reducible rfl) | (refine Eq.trans (Kx.tells_load_x hW _ _ rfl _ inferInstance _ (Try.isAgg28 _) (Try.sizeOf28 _) _ (by first | exact Kx.whole (by rfl) | (simp <;> rfl)) (by rfl) rfl) ?_; with_reducible rfl))
    case f20_367 => (go_simp; try with_reducible rfl)
    refine anyW_call (i := 21) (v := ?v21_368) (f := ?g21_368) (args := ?s21_368) (a' := ?a21_368) (by first | exact Kx.bears_x | assumption) rfl (by kernel_rfl) (by kernel_rfl) (by kernel_rfl) (fun _ _ _ h => h) (by kernel_rfl) ?c21_368 ?w21_368 ?y21_368 ?f21_368 ?r21_368
    case w21_368 => kernel_rfl
    case y21_368 => (intro W hW; go_simp; first | (refine ⟨?_, ?_⟩ <;> with_reducible rfl) | with_reducible rfl)
    case c21_368 => (intro W hW; refine Calls.mono (HS.out _) ?_; rintro e w_ ⟨rfl, hb_⟩; refine ⟨?_, by first | exact hb_ | exact hb_ ▸ Below.refl _ _⟩; with_reducible rfl)
    case f21_368 => (go_simp; try with_reducible rfl)
    refine anyW_take (i := 22) (v := ?v22_369) (a' := ?a22_369) (by first | exact Kx.bears_x | assumption) rfl (by kernel_rfl) (by kernel_rfl) (by kernel_rfl) (fun _ _ _ h => h) (by kernel_rfl) ?w22_369 ?y22_369 ?f22_369 ?r22_369
    case w22_369 => kernel_rfl
    case y22_369 => (intro w hC; go_simp; try with_reducible rfl)
    case f22_369 => (go_simp; try with_reducible rfl)
    refine anyW_take (i := 23) (v := ?v23_370) (a' := ?a23_370) (by first | exact Kx.bears_x | assumption) rfl (by kernel_rfl) (by kernel_rfl) (by kernel_rfl) (fun _ _ _ h => h) (by kernel_rfl) ?w23_370 ?y23_370 ?f23_370 ?r23_370
    case w23_370 => kernel_rfl
    case y23_370 => (intro w hC; go_simp; try with_reducible rfl)
    case f23_370 => (go_simp; try with_reducible rfl)
    refine anyW_done (by kernel_rfl) ?_
    clear HB
    intro w_ HB_
    have HB := Lib.hid HB_
    clear HB_
    go_wp2
    go_ret
    exact ⟨rfl, HB.out.below⟩
end Go.Proofs.Ytijbdkeefaaeeaa
