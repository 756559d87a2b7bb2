/- ProbeLate, walked: some cases. -/
import Derived.Test.YtijbdkeefaaeeaaLLate0
namespace Go.Proofs.Ytijbdkeefaaeeaa
open Go.RowKit Go.Shelf Km Kx Kc

set_option maxRecDepth 100000 in
set_option maxHeartbeats 4000000 in
theorem late_fresh0 (nx : Int) (op : Bool) (nn sc : Int) (e wt n nonce : Int) (w : World) (e0 : 0 ≤ e ∧ e ≤ 255) (w0 : 0 ≤ wt ∧ wt ≤ 255) (n0 : 0 ≤ n ∧ n ≤ 65535) (hz : nonce ≠ 0) :
    Calls Try.prog 8 #[.agg #[.int .i64 nx, .bool op, .int .i64 nn, .int .i64 sc, .bool true, .int .i64 0], .int .u8 e, .int .u8 wt, .int .u16 n, .int .i64 nonce] w fun e w' => e = .returned (.bool true) ∧ Below w.heap.size w w' := by
  obtain ⟨e0, e1⟩ := e0
  obtain ⟨w0, w1⟩ := w0
  obtain ⟨n0, n1⟩ := n0
  have HB := Lib.hid (Bxs.start w)
  have v1 : IntKind.i64.wrap e = e := by rw [IntKind.wrap_i64]; omega
  have v2 : IntKind.i64.wrap (1 + e) = 1 + e := by rw [IntKind.wrap_i64]; omega
  have v3 : IntKind.i64.wrap wt = wt := by rw [IntKind.wrap_i64]; omega
  have v4 : IntKind.i64.wrap (1 + wt) = 1 + wt := by rw [IntKind.wrap_i64]; omega
  have v5 : IntKind.i64.wrap n = n := by rw [IntKind.wrap_i64]; omega
  have v6 : IntKind.i64.wrap (n + (1 + wt)) = n + (1 + wt) := by rw [IntKind.wrap_i64]; omega
  have HT1 : Hid (∀ W, Calls Try.prog 10 #[.agg #[.int .i64 n, .bool false, .int .i64 nn, .int .i64 sc, .bool true, .int .i64 0], .agg (cf (mk (1 + e) (1 + wt) 2 2)).toArray, .int .i64 n, .int .i64 nonce] W fun e' w' => e' = .returned (.tuple #[.agg #[.int .i64 (Pm.bd (n + Pm.bd (1 + e))), .bool true, .int .i64 nonce, .int .i64 n, .bool true, .int .i64 0], .bool true]) ∧ Below W.heap.size W w') := Lib.hid fun W => by
    have h := Tick_any ⟨n, false, nn, sc, ⟨true, 0⟩⟩ (mk (1 + e) (1 + wt) 2 2) n nonce W
    dsimp only [mk] at h
    rw [late_first ⟨true, 0⟩ nn sc (1 + e) (1 + wt) n nonce n0 n1] at h
    exact h
  obtain ⟨q, b, hq, hs, ho⟩ := late_second ⟨true, 0⟩ (Pm.bd (n + Pm.bd (1 + e))) (1 + e) (1 + wt) n nonce 0 n0 n1 (by omega) (by omega)
  have HT2 : Hid (∀ W, Calls Try.prog 10 #[.agg #[.int .i64 (Pm.bd (n + Pm.bd (1 + e))), .bool true, .int .i64 nonce, .int .i64 n, .bool true, .int .i64 0], .agg (cf (mk (1 + e) (1 + wt) 2 2)).toArray, .int .i64 (n + (1 + wt)), .int .i64 0] W fun e' w' => e' = .returned (.tuple #[.agg (pl q).toArray, .bool b]) ∧ Below W.heap.size W w') := Lib.hid fun W => by
    have h := Tick_any ⟨Pm.bd (n + Pm.bd (1 + e)), true, nonce, n, ⟨true, 0⟩⟩ (mk (1 + e) (1 + wt) 2 2) (n + (1 + wt)) 0 W
    dsimp only [mk] at h
    rw [hq] at h
    exact h
  have HA1 : Hid (∀ W, Calls Try.prog 13 #[.agg (pl q).toArray, .agg (cf (mk (1 + e) (1 + wt) 2 2)).toArray, .int .i64 nonce] W fun e' w' => e' = .returned (.agg (pl q).toArray) ∧ Below W.heap.size W w') := Lib.hid fun W => by
    have h := Alive_any q (mk (1 + e) (1 + wt) 2 2) nonce W
    rw [late_third (o := 0) (fun k => (ho k).1) hz] at h
    exact h
  have HA2 : Hid (∀ W, Calls Try.prog 13 #[.agg #[.int .i64 n, .bool false, .int .i64 nn, .int .i64 sc, .bool true, .int .i64 0], .agg (cf (mk (1 + e) (1 + wt) 2 2)).toArray, .int .i64 nn] W fun e' w' => e' = .returned (.agg #[.int .i64 n, .bool false, .int .i64 nn, .int .i64 sc, .bool true, .int .i64 0]) ∧ Below W.heap.size W w') := Lib.hid fun W => by
    have h := Alive_any ⟨n, false, nn, sc, ⟨true, 0⟩⟩ (mk (1 + e) (1 + wt) 2 2) nn W
    rw [Pm.alive_shut rfl] at h
    exact h
  have HS : Hid (∀ W, Calls Try.prog 12 #[.agg #[.int .i64 n, .bool false, .int .i64 nn, .int .i64 sc, .bool true, .int .i64 0], .agg #[.int .i64 n, .bool false, .int .i64 nn, .int .i64 sc, .bool true, .int .i64 0]] W fun e' w' => e' = .returned (.bool true) ∧ Below W.heap.size W w') := Lib.hid fun W => PSame_self ⟨n, false, nn, sc, ⟨true, 0⟩⟩ W
  have HM := Lib.hid (mk_built (1 + e) (1 + wt) 2 2)
  dsimp only [cf, mk] at HT1 HT2 HA1 HA2
  clear hq
  obtain ⟨qx, qo, qn, qs, ⟨qu, qr⟩⟩ := q
  have hs' : (⟨qu, qr⟩ : Hm.Hy) = ⟨true, 1⟩ := hs.trans (by decide)
  obtain ⟨rfl, rfl⟩ : qu = true ∧ qr = 1 := by injection hs' with h1 h2; exact ⟨h1, h2⟩
  clear hs'
  have d1 : (nonce == 0) = false := by simp [hz]
  have hob : b = true ∨ (b = false ∧ qo = false) := by cases qo with
    | true => exact .inl (ho rfl).2
    | false => cases b <;> simp
  generalize Pm.bd (n + Pm.bd (1 + e)) = X at *
  have HO := Lib.hid hob
  clear hs ho hob hz
  go_enter Try.func8, Try.ntmps8
  go_wp2_with (first | ((with_reducible refine Kx.build_gate ?_); refine Km.wpList_build rfl 28 _ rfl #[(6, .int .i64 (1 + e)), (7, .int .i64 (1 + wt)), (8, .int .i64 2), (9, .int .i64 2)] rfl (cf (mk (1 + e) (1 + wt) 2 2)).toArray (HM.out) ?_; refine Kx.framed ?_ (by simp only [Act.put, List.setIfInBounds_toArray, List.set_cons_succ, List.set_cons_zero] <;> rfl)) | (go_at_call 9; refine Calls.mono (head_any _) ?_; rintro e w_ ⟨rfl, hb_⟩; replace HB := Lib.hid (HB.out.call hb_); clear hb_) | (go_at_call 10; with_reducible refine Kx.args_gate #[_, _, .int .i64 n, _] ?_; refine Calls.mono (HT1.out _) ?_; rintro e w_ ⟨rfl, hb_⟩; replace HB := Lib.hid (HB.out.call hb_); clear hb_) | (go_at_call 10; refine Calls.mono (HT2.out _) ?_; rintro e w_ ⟨rfl, hb_⟩; replace HB := Lib.hid (HB.out.call hb_); clear hb_) | (go_at_call 13; refine Calls.mono (HA1.out _) ?_; rintro e w_ ⟨rfl, hb_⟩; replace HB := Lib.hid (HB.out.call hb_); clear hb_) | (first | ((with_reducible refine Kx.absorb HB ?_); clear HB; intro w_ HB) | ((with_reducible refine Kx.box_gate ?_); first | (refine Kx.wpList_boxa_x HB rfl _ _ rfl _ rfl ?_; clear HB; intro b_ w_ HB; refine Kx.framed ?_ (by simp only [Act.put, List.setIfInBounds_toArray, List.set_cons_succ, List.set_cons_zero] <;> rfl)) | (refine Kx.wpList_boxt_x HB rfl _ _ rfl _ rfl rfl ?_; clear HB; intro b_ w_ HB; refine Kx.framed ?_ (by simp only [Act.put, List.setIfInBounds_toArray, List.set_cons_succ, List.set_cons_zero] <;> rfl)) | (refine Kx.wpList_box1_x HB rfl _ _ rfl _ rfl rfl ?_; clear HB; intro b_ w_ HB; refine Kx.framed ?_ (by simp only [Act.put, List.setIfInBounds_toArray, List.set_cons_succ, List.set_cons_zero] <;> rfl))) | ((with_reducible refine Kx.alloc_gate ?_); first | (refine Kx.wpList_alloca_x HB rfl _ rfl _ (Try.zeroValue25 _) ?_; clear HB; intro b_ w_ HB; refine Kx.framed ?_ (by simp only [Act.put, List.setIfInBounds_toArray, List.set_cons_succ, List.set_cons_zero] <;> rfl)) | (refine Kx.wpList_alloca_x HB rfl _ rfl _ (Try.zeroValue28 _) ?_; clear HB; intro b_ w_ HB; refine Kx.framed ?_ (by simp only [Act.put, List.setIfInBounds_toArray, List.set_cons_succ, List.set_cons_zero] <;> rfl)) | (refine Kx.wpList_alloc1_x HB rfl _ rfl _ (Try.zeroValue4 _) rfl ?_; clear HB; intro b_ w_ HB; refine Kx.framed ?_ (by simp only [Act.put, List.setIfInBounds_toArray, List.set_cons_succ, List.set_cons_zero] <;> rfl)) | (refine Kx.wpList_alloc1_x HB rfl _ rfl _ (Try.zeroValue3 _) rfl ?_; clear HB; intro b_ w_ HB; refine Kx.framed ?_ (by simp only [Act.put, List.setIfInBounds_toArray, List.set_cons_succ, List.set_cons_zero] <;> rfl)) | (refine Kx.wpList_alloc1_x HB rfl _ rfl _ (Try.zeroValue2 _) rfl ?_; clear HB; intro b_ w_ HB; refine Kx.framed ?_ (by simp only [Act.put, List.setIfInBounds_toArray, List.set_cons_succ, List.set_cons_zero] <;> rfl))) | ((with_reducible refine Kx.loads_gate ?_); first | (refine Kx.wpList_load1_x HB rfl _ _ rfl _ rfl _ (Try.isAgg4 _) _ rfl (Kx.framed ?_ (by simp only [Act.put, List.setIfInBounds_toArray, List.set_cons_succ, List.set_cons_zero] <;> rfl))) | (refine Kx.wpList_load1_x HB rfl _ _ rfl _ rfl _ (Try.isAgg3 _) _ rfl (Kx.framed ?_ (by simp only [Act.put, List.setIfInBounds_toArray, List.set_cons_succ, List.set_cons_zero] <;> rfl))) | (refine Kx.wpList_load1_x HB rfl _ _ rfl _ rfl _ (Try.isAgg2 _) _ rfl (Kx.framed ?_ (by simp only [Act.put, List.setIfInBounds_toArray, List.set_cons_succ, List.set_cons_zero] <;> rfl))) | (refine Kx.wpList_load_x HB rfl _ _ rfl _ rfl _ _ (Try.isAgg25 _) (Try.sizeOf25 _) _ (by first | exact Kx.whole (by rfl) | (simp <;> rfl)) (by rfl) (Kx.framed ?_ (by simp only [Act.put, List.setIfInBounds_toArray, List.set_cons_succ, List.set_cons_zero] <;> rfl))) | (refine Kx.wpList_load_x HB rfl _ _ rfl _ rfl _ _ (Try.isAgg28 _) (Try.sizeOf28 _) _ (by first | exact Kx.whole (by rfl) | (simp <;> rfl)) (by rfl) (Kx.framed ?_ (by simp only [Act.put, List.setIfInBounds_toArray, List.set_cons_succ, List.set_cons_zero] <;> rfl))) | (refine Kx.wpList_old_x HB rfl _ _ rfl _ rfl (Try.isAgg4 _) _ HC.out (Kx.framed ?_ (by simp only [Act.put, List.setIfInBounds_toArray, List.set_cons_succ, List.set_cons_zero] <;> rfl))) | (refine Kx.wpList_old_x HB rfl _ _ rfl _ rfl (Try.isAgg3 _) _ HC.out (Kx.framed ?_ (by simp only [Act.put, List.setIfInBounds_toArray, List.set_cons_succ, List.set_cons_zero] <;> rfl))) | (refine Kx.wpList_old_x HB rfl _ _ rfl _ rfl (Try.isAgg2 _) _ HC.out (Kx.framed ?_ (by simp only [Act.put, List.setIfInBounds_toArray, List.set_cons_succ, List.set_cons_zero] <;> rfl)))) | ((with_reducible refine Kx.loadg_gate ?_); first | (refine Kx.wpList_loadg_x HB _ _ rfl _ rfl _ (Try.isAgg4 _) _ rfl rfl (Kx.framed ?_ (by simp only [Act.put, List.setIfInBounds_toArray, List.set_cons_succ, List.set_cons_zero] <;> rfl))) | (refine Kx.wpList_loadg_x HB _ _ rfl _ rfl _ (Try.isAgg3 _) _ rfl rfl (Kx.framed ?_ (by simp only [Act.put, List.setIfInBounds_toArray, List.set_cons_succ, List.set_cons_zero] <;> rfl))) | (refine Kx.wpList_loadg_x HB _ _ rfl _ rfl _ (Try.isAgg2 _) _ rfl rfl (Kx.framed ?_ (by simp only [Act.put, List.setIfInBounds_toArray, List.set_cons_succ, List.set_cons_zero] <;> rfl))) | (refine Kx.wpList_loadga_x HB _ _ rfl _ rfl _ _ (Try.isAgg25 _) (Try.sizeOf25 _) _ (by first | exact Kx.whole (by rfl) | (simp <;> rfl)) (by rfl) rfl (Kx.framed ?_ (by simp only [Act.put, List.setIfInBounds_toArray, List.set_cons_succ, List.set_cons_zero] <;> rfl))) | (refine Kx.wpList_loadga_x HB _ _ rfl _ rfl _ _ (Try.isAgg28 _) (Try.sizeOf28 _) _ (by first | exact Kx.whole (by rfl) | (simp <;> rfl)) (by rfl) rfl (Kx.framed ?_ (by simp only [Act.put, List.setIfInBounds_toArray, List.set_cons_succ, List.set_cons_zero] <;> rfl))) | (refine Kx.wpList_oldg_x HB _ _ rfl _ rfl (Try.isAgg4 _) _ HC.out rfl (Kx.framed ?_ (by simp only [Act.put, List.setIfInBounds_toArray, List.set_cons_succ, List.set_cons_zero] <;> rfl))) | (refine Kx.wpList_oldg_x HB _ _ rfl _ rfl (Try.isAgg3 _) _ HC.out rfl (Kx.framed ?_ (by simp only [Act.put, List.setIfInBounds_toArray, List.set_cons_succ, List.set_cons_zero] <;> rfl))) | (refine Kx.wpList_oldg_x HB _ _ rfl _ rfl (Try.isAgg2 _) _ HC.out rfl (Kx.framed ?_ (by simp only [Act.put, List.setIfInBounds_toArray, List.set_cons_succ, List.set_cons_zero] <;> rfl)))) | ((with_reducible refine Kx.store_gate ?_); first | (refine Kx.wpList_storewa_x HB rfl rfl _ _ _ rfl _ rfl _ rfl _ (by rfl) (by simp <;> rfl) (by rfl) ?_; clear HB; intro w_ HB) | (refine Kx.wpList_storea_x HB rfl rfl _ _ _ rfl _ rfl _ rfl _ _ (by simp [Kx.splice] <;> rfl) (by simp) (by simp <;> rfl) (by rfl) ?_; clear HB; intro w_ HB) | (refine Kx.wpList_storec_x HB rfl rfl _ _ _ rfl _ rfl rfl _ _ (by simp <;> rfl) (by simp) (by simp <;> rfl) ?_; clear HB; intro w_ HB) | (refine Kx.wpList_storet_x HB rfl rfl _ _ _ rfl _ rfl _ rfl rfl _ _ (by simp <;> rfl) (by simp) (by simp <;> rfl) ?_; clear HB; intro w_ HB) | (refine Kx.wpList_store1_x HB rfl rfl _ _ _ rfl _ rfl _ rfl rfl _ _ (by simp <;> rfl) (by simp) (by simp <;> rfl) ?_; clear HB; intro w_ HB))))
  rcases HO.out with rfl | ⟨rfl, rfl⟩
  · clear HO
    refine Kx.region_x HB (fun i => false) (by kernel_rfl) ?_
    refine anyW_take (i := 0) (v := ?v0_371) (a' := ?a0_371) (by first | exact Kx.bears_x | assumption) rfl (by kernel_rfl) (by kernel_rfl) (by kernel_rfl) (fun _ _ _ h => h) (by kernel_rfl) ?w0_371 ?y0_371 ?f0_371 ?r0_371
    case w0_371 => kernel_rfl
    case y0_371 => (intro w hC; go_simp; try with_reducible rfl)
    case f0_371 => (go_simp; try with_reducible rfl)
    refine anyW_take (i := 1) (v := ?v1_372) (a' := ?a1_372) (by first | exact Kx.bears_x | assumption) rfl (by kernel_rfl) (by kernel_rfl) (by kernel_rfl) (fun _ _ _ h => h) (by kernel_rfl) ?w1_372 ?y1_372 ?f1_372 ?r1_372
    case w1_372 => kernel_rfl
    case y1_372 => (intro w hC; go_simp; try with_reducible rfl)
    case f1_372 => (go_simp; try with_reducible rfl)
    refine anyW_take (i := 2) (v := ?v2_373) (a' := ?a2_373) (by first | exact Kx.bears_x | assumption) rfl (by kernel_rfl) (by kernel_rfl) (by kernel_rfl) (fun _ _ _ h => h) (by kernel_rfl) ?w2_373 ?y2_373 ?f2_373 ?r2_373
    case w2_373 => kernel_rfl
    case y2_373 => (intro w hC; go_simp; try with_reducible rfl)
    case f2_373 => (go_simp; try with_reducible rfl)
    refine anyW_take (i := 3) (v := ?v3_374) (a' := ?a3_374) (by first | exact Kx.bears_x | assumption) rfl (by kernel_rfl) (by kernel_rfl) (by kernel_rfl) (fun _ _ _ h => h) (by kernel_rfl) ?w3_374 ?y3_374 ?f3_374 ?r3_374
    case w3_374 => kernel_rfl
    case y3_374 => (intro w hC; go_simp; try with_reducible rfl)
    case f3_374 => (go_simp; try with_reducible rfl)
    refine anyW_skip (i := 4) (a' := ?a4_375) (by first | exact Kx.bears_x | assumption) rfl (by kernel_rfl) (by kernel_rfl) (by kernel_rfl) (fun _ _ _ h => h) (by kernel_rfl) (by kernel_rfl) ?f4_375 ?r4_375
    case f4_375 => (go_simp; try with_reducible rfl)
    refine anyW_skip (i := 5) (a' := ?a5_376) (by first | exact Kx.bears_x | assumption) rfl (by kernel_rfl) (by kernel_rfl) (by kernel_rfl) (fun _ _ _ h => h) (by kernel_rfl) (by kernel_rfl) ?f5_376 ?r5_376
    case f5_376 => (go_simp; try with_reducible rfl)
    refine anyW_skip (i := 6) (a' := ?a6_377) (by first | exact Kx.bears_x | assumption) rfl (by kernel_rfl) (by kernel_rfl) (by kernel_rfl) (fun _ _ _ h => h) (by kernel_rfl) (by kernel_rfl) ?f6_377 ?r6_377
    case f6_377 => (go_simp; try with_reducible rfl)
    refine anyW_take (i := 7) (v := ?v7_378) (a' := ?a7_378) (by first | exact Kx.bears_x | assumption) rfl (by kernel_rfl) (by kernel_rfl) (by kernel_rfl) (fun _ _ _ h => h) (by kernel_rfl) ?w7_378 ?y7_378 ?f7_378 ?r7_378
    case w7_378 => kernel_rfl
    case y7_378 => (intro w hC; go_simp; try with_reducible rfl)
    case f7_378 => (go_simp; try with_reducible rfl)
    refine anyW_take (i := 8) (v := ?v8_379) (a' := ?a8_379) (by first | exact Kx.bears_x | assumption) rfl (by kernel_rfl) (by kernel_rfl) (by kernel_rfl) (fun _ _ _ h => h) (by kernel_rfl) ?w8_379 ?y8_379 ?f8_379 ?r8_379
    case w8_379 => kernel_rfl
    case y8_379 => (intro w hC; go_simp; try with_reducible rfl)
    case f8_379 => (go_simp; try with_reducible rfl)
    refine anyW_take (i := 9) (v := ?v9_380) (a' := ?a9_380) (by first | exact Kx.bears_x | assumption) rfl (by kernel_rfl) (by kernel_rfl) (by kernel_rfl) (fun _ _ _ h => h) (by kernel_rfl) ?w9_380 ?y9_380 ?f9_380 ?r9_380
    case w9_380 => kernel_rfl
    case y9_380 => (intro w hC; go_simp; try with_reducible rfl)
    case f9_380 => (go_simp; try with_reducible rfl)
    refine anyW_take (i := 10) (v := ?v10_381) (a' := ?a10_381) (by first | exact Kx.bears_x | assumption) rfl (by kernel_rfl) (by kernel_rfl) (by kernel_rfl) (fun _ _ _ h => h) (by kernel_rfl) ?w10_381 ?y10_381 ?f10_381 ?r10_381
    case w10_381 => kernel_rfl
    case y10_381 => (intro W hW; first | (refine Eq.trans (Kx.tells_load1_x hW _ _ rfl _ inferInstance (Try.isAgg4 _) rfl) ?_; with_reducible rfl) | (refine Eq.trans (Kx.tells_load1_x hW _ _ rfl _ inferInstance (Try.isAgg3 _) rfl) ?_; with_reducible rfl) | (refine Eq.trans (Kx.tells_load1_x hW _ _ rfl _ inferInstance (Try.isAgg2 _) rfl) ?_; with_reducible rfl) | (refine Eq.trans (Kx.tells_old_x hW _ rfl (Try.isAgg4 _) HC.out) ?_; with_reducible rfl) | (refine Eq.trans (Kx.tells_old_x hW _ rfl (Try.isAgg3 _) HC.out) ?_; with_reducible rfl) | (refine Eq.trans (Kx.tells_old_x hW _ rfl (Try.isAgg2 _) HC.out) ?_; with_reducible rfl) | (refine Eq.trans (Kx.tells_load_x hW _ _ rfl _ inferInstance _ (Try.isAgg25 _) (Try.sizeOf25 _) _ (by first | exact Kx.whole (by rfl) | (simp <;> rfl)) (by rfl) rfl) ?_; with_reducible rfl) | (refine Eq.trans (Kx.tells_load_x hW _ _ rfl _ inferInstance _ (Try.isAgg28 _) (Try.sizeOf28 _) _ (by first | exact Kx.whole (by rfl) | (simp <;> rfl)) (by rfl) rfl) ?_; with_reducible rfl))
    case f10_381 => (go_simp; try with_reducible rfl)
    refine anyW_take (i := 11) (v := ?v11_382) (a' := ?a11_382) (by first | exact Kx.bears_x | assumption) rfl (by kernel_rfl) (by kernel_rfl) (by kernel_rfl) (fun _ _ _ h => h) (by kernel_rfl) ?w11_382 ?y11_382 ?f11_382 ?r11_382
    case w11_382 => kernel_rfl
    case y11_382 => (intro W hW; first | (refine Eq.trans (Kx.tells_load1_x hW _ _ rfl _ inferInstance (Try.isAgg4 _) rfl) ?_; with_reducible rfl) | (refine Eq.trans (Kx.tells_load1_x hW _ _ rfl _ inferInstance (Try.isAgg3 _) rfl) ?_; with_reducible rfl) | (refine Eq.trans (Kx.tells_load1_x hW _ _ rfl _ inferInstance (Try.isAgg2 _) rfl) ?_; with_reducible rfl) | (refine Eq.trans (Kx.tells_old_x hW _ rfl (Try.isAgg4 _) HC.out) ?_; with_reducible rfl) | (refine Eq.trans (Kx.tells_old_x hW _ rfl (Try.isAgg3 _) HC.out) ?_; with_reducible rfl) | (refine Eq.trans (Kx.tells_old_x hW _ rfl (Try.isAgg2 _) HC.out) ?_; with_reducible rfl) | (refine Eq.trans (Kx.tells_load_x hW _ _ rfl _ inferInstance _ (Try.isAgg25 _) (Try.sizeOf25 _) _ (by first | exact Kx.whole (by rfl) | (simp <;> rfl)) (by rfl) rfl) ?_; with_reducible rfl) | (refine Eq.trans (Kx.tells_load_x hW _ _ rfl _ inferInstance _ (Try.isAgg28 _) (Try.sizeOf28 _) _ (by first | exact Kx.whole (by rfl) | (simp <;> rfl)) (by rfl) rfl) ?_; with_reducible rfl))
    case f11_382 => (go_simp; try with_reducible rfl)
    refine anyW_call (i := 12) (v := ?v12_383) (f := ?g12_383) (args := ?s12_383) (a' := ?a12_383) (by first | exact Kx.bears_x | assumption) rfl (by kernel_rfl) (by kernel_rfl) (by kernel_rfl) (fun _ _ _ h => h) (by kernel_rfl) ?c12_383 ?w12_383 ?y12_383 ?f12_383 ?r12_383
    case w12_383 => kernel_rfl
    case y12_383 => (intro W hW; go_simp; first | (refine ⟨?_, ?_⟩ <;> with_reducible rfl) | with_reducible rfl)
    case c12_383 => (intro W hW; refine Calls.mono (PSame_self ⟨_, _, _, _, ⟨_, _⟩⟩ _) ?_; rintro e w_ ⟨rfl, hb_⟩; refine ⟨?_, by first | exact hb_ | exact hb_ ▸ Below.refl _ _⟩; with_reducible rfl)
    case f12_383 => (go_simp; try with_reducible rfl)
    refine anyW_take (i := 13) (v := ?v13_384) (a' := ?a13_384) (by first | exact Kx.bears_x | assumption) rfl (by kernel_rfl) (by kernel_rfl) (by kernel_rfl) (fun _ _ _ h => h) (by kernel_rfl) ?w13_384 ?y13_384 ?f13_384 ?r13_384
    case w13_384 => kernel_rfl
    case y13_384 => (intro w hC; go_simp; try with_reducible rfl)
    case f13_384 => (go_simp; try with_reducible rfl)
    refine anyW_take (i := 14) (v := ?v14_385) (a' := ?a14_385) (by first | exact Kx.bears_x | assumption) rfl (by kernel_rfl) (by kernel_rfl) (by kernel_rfl) (fun _ _ _ h => h) (by kernel_rfl) ?w14_385 ?y14_385 ?f14_385 ?r14_385
    case w14_385 => kernel_rfl
    case y14_385 => (intro w hC; go_simp; try with_reducible rfl)
    case f14_385 => (go_simp; try with_reducible rfl)
    refine anyW_take (i := 15) (v := ?v15_386) (a' := ?a15_386) (by first | exact Kx.bears_x | assumption) rfl (by kernel_rfl) (by kernel_rfl) (by kernel_rfl) (fun _ _ _ h => h) (by kernel_rfl) ?w15_386 ?y15_386 ?f15_386 ?r15_386
    case w15_386 => kernel_rfl
    case y15_386 => (intro W hW; first | (refine Eq.trans (Kx.tells_load1_x hW _ _ rfl _ inferInstance (Try.isAgg4 _) rfl) ?_; with_reducible rfl) | (refine Eq.trans (Kx.tells_load1_x hW _ _ rfl _ inferInstance (Try.isAgg3 _) rfl) ?_; with_reducible rfl) | (refine Eq.trans (Kx.tells_load1_x hW _ _ rfl _ inferInstance (Try.isAgg2 _) rfl) ?_; with_reducible rfl) | (refine Eq.trans (Kx.tells_old_x hW _ rfl (Try.isAgg4 _) HC.out) ?_; with_reducible rfl) | (refine Eq.trans (Kx.tells_old_x hW _ rfl (Try.isAgg3 _) HC.out) ?_; with_reducible rfl) | (refine Eq.trans (Kx.tells_old_x hW _ rfl (Try.isAgg2 _) HC.out) ?_; with_reducible rfl) | (refine Eq.trans (Kx.tells_load_x hW _ _ rfl _ inferInstance _ (Try.isAgg25 _) (Try.sizeOf25 _) _ (by first | exact Kx.whole (by rfl) | (simp <;> rfl)) (by rfl) rfl) ?_; with_reducible rfl) | (refine Eq.trans (Kx.tells_load_x hW _ _ rfl _ inferInstance _ (Try.isAgg28 _) (Try.sizeOf28 _) _ (by first | exact Kx.whole (by rfl) | (simp <;> rfl)) (by rfl) rfl) ?_; with_reducible rfl))
    case f15_386 => (go_simp; try with_reducible rfl)
    refine anyW_take (i := 16) (v := ?v16_387) (a' := ?a16_387) (by first | exact Kx.bears_x | assumption) rfl (by kernel_rfl) (by kernel_rfl) (by kernel_rfl) (fun _ _ _ h => h) (by kernel_rfl) ?w16_387 ?y16_387 ?f16_387 ?r16_387
    case w16_387 => kernel_rfl
    case y16_387 => (intro W hW; first | (refine Eq.trans (Kx.tells_load1_x hW _ _ rfl _ inferInstance (Try.isAgg4 _) rfl) ?_; with_reducible rfl) | (refine Eq.trans (Kx.tells_load1_x hW _ _ rfl _ inferInstance (Try.isAgg3 _) rfl) ?_; with_reducible rfl) | (refine Eq.trans (Kx.tells_load1_x hW _ _ rfl _ inferInstance (Try.isAgg2 _) rfl) ?_; with_reducible rfl) | (refine Eq.trans (Kx.tells_old_x hW _ rfl (Try.isAgg4 _) HC.out) ?_; with_reducible rfl) | (refine Eq.trans (Kx.tells_old_x hW _ rfl (Try.isAgg3 _) HC.out) ?_; with_reducible rfl) | (refine Eq.trans (Kx.tells_old_x hW _ rfl (Try.isAgg2 _) HC.out) ?_; with_reducible rfl) | (refine Eq.trans (Kx.tells_load_x hW _ _ rfl _ inferInstance _ (Try.isAgg25 _) (Try.sizeOf25 _) _ (by first | exact Kx.whole (by rfl) | (simp <;> rfl)) (by rfl) rfl) ?_; with_reducible rfl) | (refine Eq.trans (Kx.tells_load_x hW _ _ rfl _ inferInstance _ (Try.isAgg28 _) (Try.sizeOf28 _) _ (by first | exact Kx.whole (by rfl) | (simp <;> rfl)) (by rfl) rfl) ?_; with_reducible rfl))
    case f16_387 => (go_simp; try with_reducible rfl)
    refine anyW_take (i := 17) (v := ?v17_388) (a' := ?a17_388) (by first | exact Kx.bears_x | assumption) rfl (by kernel_rfl) (by kernel_rfl) (by kernel_rfl) (fun _ _ _ h => h) (by kernel_rfl) ?w17_388 ?y17_388 ?f17_388 ?r17_388
    case w17_388 => kernel_rfl
    case y17_388 => (intro w hC; go_simp; try with_reducible rfl)
    case f17_388 => (go_simp; try with_reducible rfl)
    refine anyW_take (i := 18) (v := ?v18_389) (a' := ?a18_389) (by first | exact Kx.bears_x | assumption) rfl (by kernel_rfl) (by kernel_rfl) (by kernel_rfl) (fun _ _ _ h => h) (by kernel_rfl) ?w18_389 ?y18_389 ?f18_389 ?r18_389
    case w18_389 => kernel_rfl
    case y18_389 => (intro W hW; first | (refine Eq.trans (Kx.tells_load1_x hW _ _ rfl _ inferInstance (Try.isAgg4 _) rfl) ?_; with_reducible rfl) | (refine Eq.trans (Kx.tells_load1_x hW _ _ rfl _ inferInstance (Try.isAgg3 _) rfl) ?_; with_reducible rfl) | (refine Eq.trans (Kx.tells_load1_x hW _ _ rfl _ inferInstance (Try.isAgg2 _) rfl) ?_; with_reducible rfl) | (refine Eq.trans (Kx.tells_old_x hW _ rfl (Try.isAgg4 _) HC.out) ?_; with_reducible rfl) | (refine Eq.trans (Kx.tells_old_x hW _ rfl (Try.isAgg3 _) HC.out) ?_; with_reducible rfl) | (refine Eq.trans (Kx.tells_old_x hW _ rfl (Try.isAgg2 _) HC.out) ?_; with_reducible rfl) | (refine Eq.trans (Kx.tells_load_x hW _ _ rfl _ inferInstance _ (Try.isAgg25 _) (Try.sizeOf25 _) _ (by first | exact Kx.whole (by rfl) | (simp <;> rfl)) (by rfl) rfl) ?_; with_reducible rfl) | (refine Eq.trans (Kx.tells_load_x hW _ _ rfl _ inferInstance _ (Try.isAgg28 _) (Try.sizeOf28 _) _ (by first | exact Kx.whole (by rfl) | (simp <;> rfl)) (by rfl) rfl) ?_; with_reducible rfl))
    case f18_389 => (go_simp; try with_reducible rfl)
    refine anyW_call (i := 19) (v := ?v19_390) (f := ?g19_390) (args := ?s19_390) (a' := ?a19_390) (by first | exact Kx.bears_x | assumption) rfl (by kernel_rfl) (by kernel_rfl) (by kernel_rfl) (fun _ _ _ h => h) (by kernel_rfl) ?c19_390 ?w19_390 ?y19_390 ?f19_390 ?r19_390
    case w19_390 => kernel_rfl
    case y19_390 => (intro W hW; go_simp; first | (refine ⟨?_, ?_⟩ <;> with_reducible rfl) | with_reducible rfl)
    case c19_390 => (intro W hW; refine Calls.mono (HA2.out _) ?_; rintro e w_ ⟨rfl, hb_⟩; refine ⟨?_, by first | exact hb_ | exact hb_ ▸ Below.refl _ _⟩; with_reducible rfl)
    case f19_390 => (go_simp; try with_reducible rfl)
    refine anyW_take (i := 20) (v := ?v20_391) (a' := ?a20_391) (by first | exact Kx.bears_x | assumption) rfl (by kernel_rfl) (by kernel_rfl) (by kernel_rfl) (fun _ _ _ h => h) (by kernel_rfl) ?w20_391 ?y20_391 ?f20_391 ?r20_391
    case w20_391 => kernel_rfl
    case y20_391 => (intro W hW; first | (refine Eq.trans (Kx.tells_load1_x hW _ _ rfl _ inferInstance (Try.isAgg4 _) rfl) ?_; with_reducible rfl) | (refine Eq.trans (Kx.tells_load1_x hW _ _ rfl _ inferInstance (Try.isAgg3 _) rfl) ?_; with_reducible rfl) | (refine Eq.trans (Kx.tells_load1_x hW _ _ rfl _ inferInstance (Try.isAgg2 _) rfl) ?_; with_reducible rfl) | (refine Eq.trans (Kx.tells_old_x hW _ rfl (Try.isAgg4 _) HC.out) ?_; with_reducible rfl) | (refine Eq.trans (Kx.tells_old_x hW _ rfl (Try.isAgg3 _) HC.out) ?_; with_reducible rfl) | (refine Eq.trans (Kx.tells_old_x hW _ rfl (Try.isAgg2 _) HC.out) ?_; with_reducible rfl) | (refine Eq.trans (Kx.tells_load_x hW _ _ rfl _ inferInstance _ (Try.isAgg25 _) (Try.sizeOf25 _) _ (by first | exact Kx.whole (by rfl) | (simp <;> rfl)) (by rfl) rfl) ?_; with_reducible rfl) | (refine Eq.trans (Kx.tells_load_x hW _ _ rfl _ inferInstance _ (Try.isAgg28 _) (Try.sizeOf28 _) _ (by first | exact Kx.whole (by rfl) | (simp <;> rfl)) (by rfl) rfl) ?_; with_reducible rfl))
    case f20_391 => (go_simp; try with_reducible rfl)
    refine anyW_call (i := 21) (v := ?v21_392) (f := ?g21_392) (args := ?s21_392) (a' := ?a21_392) (by first | exact Kx.bears_x | assumption) rfl (by kernel_rfl) (by kernel_rfl) (by kernel_rfl) (fun _ _ _ h => h) (by kernel_rfl) ?c21_392 ?w21_392 ?y21_392 ?f21_392 ?r21_392
    case w21_392 => kernel_rfl
    case y21_392 => (intro W hW; go_simp; first | (refine ⟨?_, ?_⟩ <;> with_reducible rfl) | with_reducible rfl)
    case c21_392 => (intro W hW; refine Calls.mono (HS.out _) ?_; rintro e w_ ⟨rfl, hb_⟩; refine ⟨?_, by first | exact hb_ | exact hb_ ▸ Below.refl _ _⟩; with_reducible rfl)
    case f21_392 => (go_simp; try with_reducible rfl)
    refine anyW_take (i := 22) (v := ?v22_393) (a' := ?a22_393) (by first | exact Kx.bears_x | assumption) rfl (by kernel_rfl) (by kernel_rfl) (by kernel_rfl) (fun _ _ _ h => h) (by kernel_rfl) ?w22_393 ?y22_393 ?f22_393 ?r22_393
    case w22_393 => kernel_rfl
    case y22_393 => (intro w hC; go_simp; try with_reducible rfl)
    case f22_393 => (go_simp; try with_reducible rfl)
    refine anyW_take (i := 23) (v := ?v23_394) (a' := ?a23_394) (by first | exact Kx.bears_x | assumption) rfl (by kernel_rfl) (by kernel_rfl) (by kernel_rfl) (fun _ _ _ h => h) (by kernel_rfl) ?w23_394 ?y23_394 ?f23_394 ?r23_394
    case w23_394 => kernel_rfl
    case y23_394 => (intro w hC; go_simp; try with_reducible rfl)
    case f23_394 => (go_simp; try with_reducible rfl)
    refine anyW_done (by kernel_rfl) ?_
    clear HB
    intro w_ HB_
    have HB := Lib.hid HB_
    clear HB_
    go_wp2
    go_ret
    exact ⟨rfl, HB.out.below⟩
  · clear HO
    refine Kx.region_x HB (fun i => false) (by kernel_rfl) ?_
    refine anyW_take (i := 0) (v := ?v0_395) (a' := ?a0_395) (by first | exact Kx.bears_x | assumption) rfl (by kernel_rfl) (by kernel_rfl) (by kernel_rfl) (fun _ _ _ h => h) (by kernel_rfl) ?w0_395 ?y0_395 ?f0_395 ?r0_395
    case w0_395 => kernel_rfl
    case y0_395 => (intro w hC; go_simp; try with_reducible rfl)
    case f0_395 => (go_simp; try with_reducible rfl)
    refine anyW_take (i := 1) (v := ?v1_396) (a' := ?a1_396) (by first | exact Kx.bears_x | assumption) rfl (by kernel_rfl) (by kernel_rfl) (by kernel_rfl) (fun _ _ _ h => h) (by kernel_rfl) ?w1_396 ?y1_396 ?f1_396 ?r1_396
    case w1_396 => kernel_rfl
    case y1_396 => (intro w hC; go_simp; try with_reducible rfl)
    case f1_396 => (go_simp; try with_reducible rfl)
    refine anyW_take (i := 2) (v := ?v2_397) (a' := ?a2_397) (by first | exact Kx.bears_x | assumption) rfl (by kernel_rfl) (by kernel_rfl) (by kernel_rfl) (fun _ _ _ h => h) (by kernel_rfl) ?w2_397 ?y2_397 ?f2_397 ?r2_397
    case w2_397 => kernel_rfl
    case y2_397 => (intro w hC; go_simp; try with_reducible rfl)
    case f2_397 => (go_simp; try with_reducible rfl)
    refine anyW_take (i := 3) (v := ?v3_398) (a' := ?a3_398) (by first | exact Kx.bears_x | assumption) rfl (by kernel_rfl) (by kernel_rfl) (by kernel_rfl) (fun _ _ _ h => h) (by kernel_rfl) ?w3_398 ?y3_398 ?f3_398 ?r3_398
    case w3_398 => kernel_rfl
    case y3_398 => (intro w hC; go_simp; try with_reducible rfl)
    case f3_398 => (go_simp; try with_reducible rfl)
    refine anyW_take (i := 4) (v := ?v4_399) (a' := ?a4_399) (by first | exact Kx.bears_x | assumption) rfl (by kernel_rfl) (by kernel_rfl) (by kernel_rfl) (fun _ _ _ h => h) (by kernel_rfl) ?w4_399 ?y4_399 ?f4_399 ?r4_399
    case w4_399 => kernel_rfl
    case y4_399 => (intro w hC; go_simp; try with_reducible rfl)
    case f4_399 => (go_simp; try with_reducible rfl)
    refine anyW_take (i := 5) (v := ?v5_400) (a' := ?a5_400) (by first | exact Kx.bears_x | assumption) rfl (by kernel_rfl) (by kernel_rfl) (by kernel_rfl) (fun _ _ _ h => h) (by kernel_rfl) ?w5_400 ?y5_400 ?f5_400 ?r5_400
    case w5_400 => kernel_rfl
    case y5_400 => (intro W hW; first | (refine Eq.trans (Kx.tells_load1_x hW _ _ rfl _ inferInstance (Try.isAgg4 _) rfl) ?_; with_reducible rfl) | (refine Eq.trans (Kx.tells_load1_x hW _ _ rfl _ inferInstance (Try.isAgg3 _) rfl) ?_; with_reducible rfl) | (refine Eq.trans (Kx.tells_load1_x hW _ _ rfl _ inferInstance (Try.isAgg2 _) rfl) ?_; with_reducible rfl) | (refine Eq.trans (Kx.tells_old_x hW _ rfl (Try.isAgg4 _) HC.out) ?_; with_reducible rfl) | (refine Eq.trans (Kx.tells_old_x hW _ rfl (Try.isAgg3 _) HC.out) ?_; with_reducible rfl) | (refine Eq.trans (Kx.tells_old_x hW _ rfl (Try.isAgg2 _) HC.out) ?_; with_reducible rfl) | (refine Eq.trans (Kx.tells_load_x hW _ _ rfl _ inferInstance _ (Try.isAgg25 _) (Try.sizeOf25 _) _ (by first | exact Kx.whole (by rfl) | (simp <;> rfl)) (by rfl) rfl) ?_; with_reducible rfl) | (refine Eq.trans (Kx.tells_load_x hW _ _ rfl _ inferInstance _ (Try.isAgg28 _) (Try.sizeOf28 _) _ (by first | exact Kx.whole (by rfl) | (simp <;> rfl)) (by rfl) rfl) ?_; with_reducible rfl))
    case f5_400 => (go_simp; try with_reducible rfl)
    refine anyW_take (i := 6) (v := ?v6_401) (a' := ?a6_401) (by first | exact Kx.bears_x | assumption) rfl (by kernel_rfl) (by kernel_rfl) (by kernel_rfl) (fun _ _ _ h => h) (by kernel_rfl) ?w6_401 ?y6_401 ?f6_401 ?r6_401
    case w6_401 => kernel_rfl
    case y6_401 => (intro w hC; go_simp; try with_reducible rfl)
    case f6_401 => (go_simp; try with_reducible rfl)
    refine anyW_take (i := 7) (v := ?v7_402) (a' := ?a7_402) (by first | exact Kx.bears_x | assumption) rfl (by kernel_rfl) (by kernel_rfl) (by kernel_rfl) (fun _ _ _ h => h) (by kernel_rfl) ?w7_402 ?y7_402 ?f7_402 ?r7_402
    case w7_402 => kernel_rfl
    case y7_402 => (intro w hC; go_simp; try with_reducible rfl)
    case f7_402 => (go_simp; try with_reducible rfl)
    refine anyW_take (i := 8) (v := ?v8_403) (a' := ?a8_403) (by first | exact Kx.bears_x | assumption) rfl (by kernel_rfl) (by kernel_rfl) (by kernel_rfl) (fun _ _ _ h => h) (by kernel_rfl) ?w8_403 ?y8_403 ?f8_403 ?r8_403
    case w8_403 => kernel_rfl
    case y8_403 => (intro w hC; go_simp; try with_reducible rfl)
    case f8_403 => (go_simp; try with_reducible rfl)
    refine anyW_take (i := 9) (v := ?v9_404) (a' := ?a9_404) (by first | exact Kx.bears_x | assumption) rfl (by kernel_rfl) (by kernel_rfl) (by kernel_rfl) (fun _ _ _ h => h) (by kernel_rfl) ?w9_404 ?y9_404 ?f9_404 ?r9_404
    case w9_404 => kernel_rfl
    case y9_404 => (intro w hC; go_simp; try with_reducible rfl)
    case f9_404 => (go_simp; try with_reducible rfl)
    refine anyW_take (i := 10) (v := ?v10_405) (a' := ?a10_405) (by first | exact Kx.bears_x | assumption) rfl (by kernel_rfl) (by kernel_rfl) (by kernel_rfl) (fun _ _ _ h => h) (by kernel_rfl) ?w10_405 ?y10_405 ?f10_405 ?r10_405
    case w10_405 => kernel_rfl
    case y10_405 => (intro W hW; first | (refine Eq.trans (Kx.tells_load1_x hW _ _ rfl _ inferInstance (Try.isAgg4 _) rfl) ?_; with_reducible rfl) | (refine Eq.trans (Kx.tells_load1_x hW _ _ rfl _ inferInstance (Try.isAgg3 _) rfl) ?_; with_reducible rfl) | (refine Eq.trans (Kx.tells_load1_x hW _ _ rfl _ inferInstance (Try.isAgg2 _) rfl) ?_; with_reducible rfl) | (refine Eq.trans (Kx.tells_old_x hW _ rfl (Try.isAgg4 _) HC.out) ?_; with_reducible rfl) | (refine Eq.trans (Kx.tells_old_x hW _ rfl (Try.isAgg3 _) HC.out) ?_; with_reducible rfl) | (refine Eq.trans (Kx.tells_old_x hW _ rfl (Try.isAgg2 _) HC.out) ?_; with_reducible rfl) | (refine Eq.trans (Kx.tells_load_x hW _ _ rfl _ inferInstance _ (Try.isAgg25 _) (Try.sizeOf25 _) _ (by first | exact Kx.whole (by rfl) | (simp <;> rfl)) (by rfl) rfl) ?_; with_reducible rfl) | (refine Eq.trans (Kx.tells_load_x hW _ _ rfl _ inferInstance _ (Try.isAgg28 _) (Try.sizeOf28 _) _ (by first | exact Kx.whole (by rfl) | (simp <;> rfl)) (by rfl) rfl) ?_; with_reducible rfl))
    case f10_405 => (go_simp; try with_reducible rfl)
    refine anyW_take (i := 11) (v := ?v11_406) (a' := ?a11_406) (by first | exact Kx.bears_x | assumption) rfl (by kernel_rfl) (by kernel_rfl) (by kernel_rfl) (fun _ _ _ h => h) (by kernel_rfl) ?w11_406 ?y11_406 ?f11_406 ?r11_406
    case w11_406 => kernel_rfl
    case y11_406 => (intro W hW; first | (refine Eq.trans (Kx.tells_load1_x hW _ _ rfl _ inferInstance (Try.isAgg4 _) rfl) ?_; with_reducible rfl) | (refine Eq.trans (Kx.tells_load1_x hW _ _ rfl _ inferInstance (Try.isAgg3 _) rfl) ?_; with_reducible rfl) | (refine Eq.trans (Kx.tells_load1_x hW _ _ rfl _ inferInstance (Try.isAgg2 _) rfl) ?_; with_reducible rfl) | (refine Eq.trans (Kx.tells_old_x hW _ rfl (Try.isAgg4 _) HC.out) ?_; with_reducible rfl) | (refine Eq.trans (Kx.tells_old_x hW _ rfl (Try.isAgg3 _) HC.out) ?_; with_reducible rfl) | (refine Eq.trans (Kx.tells_old_x hW _ rfl (Try.isAgg2 _) HC.out) ?_; with_reducible rfl) | (refine Eq.trans (Kx.tells_load_x hW _ _ rfl _ inferInstance _ (Try.isAgg25 _) (Try.sizeOf25 _) _ (by first | exact Kx.whole (by rfl) | (simp <;> rfl)) (by rfl) rfl) ?_; with_reducible rfl) | (refine Eq.trans (Kx.tells_load_x hW _ _ rfl _ inferInstance _ (Try.isAgg28 _) (Try.sizeOf28 _) _ (by first | exact Kx.whole (by rfl) | (simp <;> rfl)) (by rfl) rfl) ?_; with_reducible rfl))
    case f11_406 => (go_simp; try with_reducible rfl)
    refine anyW_call (i := 12) (v := ?v12_407) (f := ?g12_407) (args := ?s12_407) (a' := ?a12_407) (by first | exact Kx.bears_x | assumption) rfl (by kernel_rfl) (by kernel_rfl) (by kernel_rfl) (fun _ _ _ h => h) (by kernel_rfl) ?c12_407 ?w12_407 ?y12_407 ?f12_407 ?r12_407
    case w12_407 => kernel_rfl
    case y12_407 => (intro W hW; go_simp; first | (refine ⟨?_, ?_⟩ <;> with_reducible rfl) | with_reducible rfl)
    case c12_407 => (intro W hW; refine Calls.mono (PSame_self ⟨_, _, _, _, ⟨_, _⟩⟩ _) ?_; rintro e w_ ⟨rfl, hb_⟩; refine ⟨?_, by first | exact hb_ | exact hb_ ▸ Below.refl _ _⟩; with_reducible rfl)
    case f12_407 => (go_simp; try with_reducible rfl)
    refine anyW_take (i := 13) (v := ?v13_408) (a' := ?a13_408) (by first | exact Kx.bears_x | assumption) rfl (by kernel_rfl) (by kernel_rfl) (by kernel_rfl) (fun _ _ _ h => h) (by kernel_rfl) ?w13_408 ?y13_408 ?f13_408 ?r13_408
    case w13_408 => kernel_rfl
    case y13_408 => (intro w hC; go_simp; try with_reducible rfl)
    case f13_408 => (go_simp; try with_reducible rfl)
    refine anyW_take (i := 14) (v := ?v14_409) (a' := ?a14_409) (by first | exact Kx.bears_x | assumption) rfl (by kernel_rfl) (by kernel_rfl) (by kernel_rfl) (fun _ _ _ h => h) (by kernel_rfl) ?w14_409 ?y14_409 ?f14_409 ?r14_409
    case w14_409 => kernel_rfl
    case y14_409 => (intro w hC; go_simp; try with_reducible rfl)
    case f14_409 => (go_simp; try with_reducible rfl)
    refine anyW_take (i := 15) (v := ?v15_410) (a' := ?a15_410) (by first | exact Kx.bears_x | assumption) rfl (by kernel_rfl) (by kernel_rfl) (by kernel_rfl) (fun _ _ _ h => h) (by kernel_rfl) ?w15_410 ?y15_410 ?f15_410 ?r15_410
    case w15_410 => kernel_rfl
    case y15_410 => (intro W hW; first | (refine Eq.trans (Kx.tells_load1_x hW _ _ rfl _ inferInstance (Try.isAgg4 _) rfl) ?_; with_reducible rfl) | (refine Eq.trans (Kx.tells_load1_x hW _ _ rfl _ inferInstance (Try.isAgg3 _) rfl) ?_; with_reducible rfl) | (refine Eq.trans (Kx.tells_load1_x hW _ _ rfl _ inferInstance (Try.isAgg2 _) rfl) ?_; with_reducible rfl) | (refine Eq.trans (Kx.tells_old_x hW _ rfl (Try.isAgg4 _) HC.out) ?_; with_reducible rfl) | (refine Eq.trans (Kx.tells_old_x hW _ rfl (Try.isAgg3 _) HC.out) ?_; with_reducible rfl) | (refine Eq.trans (Kx.tells_old_x hW _ rfl (Try.isAgg2 _) HC.out) ?_; with_reducible rfl) | (refine Eq.trans (Kx.tells_load_x hW _ _ rfl _ inferInstance _ (Try.isAgg25 _) (Try.sizeOf25 _) _ (by first | exact Kx.whole (by rfl) | (simp <;> rfl)) (by rfl) rfl) ?_; with_reducible rfl) | (refine Eq.trans (Kx.tells_load_x hW _ _ rfl _ inferInstance _ (Try.isAgg28 _) (Try.sizeOf28 _) _ (by first | exact Kx.whole (by rfl) | (simp <;> rfl)) (by rfl) rfl) ?_; with_reducible rfl))
    case f15_410 => (go_simp; try with_reducible rfl)
    refine anyW_take (i := 16) (v := ?v16_411) (a' := ?a16_411) (by first | exact Kx.bears_x | assumption) rfl (by kernel_rfl) (by kernel_rfl) (by kernel_rfl) (fun _ _ _ h => h) (by kernel_rfl) ?w16_411 ?y16_411 ?f16_411 ?r16_411
    case w16_411 => kernel_rfl
    case y16_411 => (intro W hW; first | (refine Eq.trans (Kx.tells_load1_x hW _ _ rfl _ inferInstance (Try.isAgg4 _) rfl) ?_; with_reducible rfl) | (refine Eq.trans (Kx.tells_load1_x hW _ _ rfl _ inferInstance (Try.isAgg3 _) rfl) ?_; with_reducible rfl) | (refine Eq.trans (Kx.tells_load1_x hW _ _ rfl _ inferInstance (Try.isAgg2 _) rfl) ?_; with_reducible rfl) | (refine Eq.trans (Kx.tells_old_x hW _ rfl (Try.isAgg4 _) HC.out) ?_; with_reducible rfl) | (refine Eq.trans (Kx.tells_old_x hW _ rfl (Try.isAgg3 _) HC.out) ?_; with_reducible rfl) | (refine Eq.trans (Kx.tells_old_x hW _ rfl (Try.isAgg2 _) HC.out) ?_; with_reducible rfl) | (refine Eq.trans (Kx.tells_load_x hW _ _ rfl _ inferInstance _ (Try.isAgg25 _) (Try.sizeOf25 _) _ (by first | exact Kx.whole (by rfl) | (simp <;> rfl)) (by rfl) rfl) ?_; with_reducible rfl) | (refine Eq.trans (Kx.tells_load_x hW _ _ rfl _ inferInstance _ (Try.isAgg28 _) (Try.sizeOf28 _) _ (by first | exact Kx.whole (by rfl) | (simp <;> rfl)) (by rfl) rfl) ?_; with_reducible rfl))
    case f16_411 => (go_simp; try with_reducible rfl)
    refine anyW_take (i := 17) (v := ?v17_412) (a' := ?a17_412) (by first | exact Kx.bears_x | assumption) rfl (by kernel_rfl) (by kernel_rfl) (by kernel_rfl) (fun _ _ _ h => h) (by kernel_rfl) ?w17_412 ?y17_412 ?f17_412 ?r17_412
    case w17_412 => kernel_rfl
    case y17_412 => (intro w hC; go_simp; try with_reducible rfl)
    case f17_412 => (go_simp; try with_reducible rfl)
    refine anyW_take (i := 18) (v := ?v18_413) (a' := ?a18_413) (by first | exact Kx.bears_x | assumption) rfl (by kernel_rfl) (by kernel_rfl) (by kernel_rfl) (fun _ _ _ h => h) (by kernel_rfl) ?w18_413 ?y18_413 ?f18_413 ?r18_413
    case w18_413 => kernel_rfl
    case y18_413 => (intro W hW; first | (refine Eq.trans (Kx.tells_load1_x hW _ _ rfl _ inferInstance (Try.isAgg4 _) rfl) ?_; with_reducible rfl) | (refine Eq.trans (Kx.tells_load1_x hW _ _ rfl _ inferInstance (Try.isAgg3 _) rfl) ?_; with_reducible rfl) | (refine Eq.trans (Kx.tells_load1_x hW _ _ rfl _ inferInstance (Try.isAgg2 _) rfl) ?_; with_reducible rfl) | (refine Eq.trans (Kx.tells_old_x hW _ rfl (Try.isAgg4 _) HC.out) ?_; with_reducible rfl) | (refine Eq.trans (Kx.tells_old_x hW _ rfl (Try.isAgg3 _) HC.out) ?_; with_reducible rfl) | (refine Eq.trans (Kx.tells_old_x hW _ rfl (Try.isAgg2 _) HC.out) ?_; with_reducible rfl) | (refine Eq.trans (Kx.tells_load_x hW _ _ rfl _ inferInstance _ (Try.isAgg25 _) (Try.sizeOf25 _) _ (by first | exact Kx.whole (by rfl) | (simp <;> rfl)) (by rfl) rfl) ?_; with_reducible rfl) | (refine Eq.trans (Kx.tells_load_x hW _ _ rfl _ inferInstance _ (Try.isAgg28 _) (Try.sizeOf28 _) _ (by first | exact Kx.whole (by rfl) | (simp <;> rfl)) (by rfl) rfl) ?_; with_reducible rfl))
    case f18_413 => (go_simp; try with_reducible rfl)
    refine anyW_call (i := 19) (v := ?v19_414) (f := ?g19_414) (args := ?s19_414) (a' := ?a19_414) (by first | exact Kx.bears_x | assumption) rfl (by kernel_rfl) (by kernel_rfl) (by kernel_rfl) (fun _ _ _ h => h) (by kernel_rfl) ?c19_414 ?w19_414 ?y19_414 ?f19_414 ?r19_414
    case w19_414 => kernel_rfl
    case y19_414 => (intro W hW; go_simp; first | (refine ⟨?_, ?_⟩ <;> with_reducible rfl) | with_reducible rfl)
    case c19_414 => (intro W hW; refine Calls.mono (HA2.out _) ?_; rintro e w_ ⟨rfl, hb_⟩; refine ⟨?_, by first | exact hb_ | exact hb_ ▸ Below.refl _ _⟩; with_reducible rfl)
    case f19_414 => (go_simp; try with_reducible rfl)
    refine anyW_take (i := 20) (v := ?v20_415) (a' := ?a20_415) (by first | exact Kx.bears_x | assumption) rfl (by kernel_rfl) (by kernel_rfl) (by kernel_rfl) (fun _ _ _ h => h) (by kernel_rfl) ?w20_415 ?y20_415 ?f20_415 ?r20_415
    case w20_415 => kernel_rfl
    case y20_415 => (intro W hW; first | (refine Eq.trans (Kx.tells_load1_x hW _ _ rfl _ inferInstance (Try.isAgg4 _) rfl) ?_; with_reducible rfl) | (refine Eq.trans (Kx.tells_load1_x hW _ _ rfl _ inferInstance (Try.isAgg3 _) rfl) ?_; with_reducible rfl) | (refine Eq.trans (Kx.tells_load1_x hW _ _ rfl _ inferInstance (Try.isAgg2 _) rfl) ?_; with_reducible rfl) | (refine Eq.trans (Kx.tells_old_x hW _ rfl (Try.isAgg4 _) HC.out) ?_; with_reducible rfl) | (refine Eq.trans (Kx.tells_old_x hW _ rfl (Try.isAgg3 _) HC.out) ?_; with_reducible rfl) | (refine Eq.trans (Kx.tells_old_x hW _ rfl (Try.isAgg2 _) HC.out) ?_; with_reducible rfl) | (refine Eq.trans (Kx.tells_load_x hW _ _ rfl _ inferInstance _ (Try.isAgg25 _) (Try.sizeOf25 _) _ (by first | exact Kx.whole (by rfl) | (simp <;> rfl)) (by rfl) rfl) ?_; with_reducible rfl) | (refine Eq.trans (Kx.tells_load_x hW _ _ rfl _ inferInstance _ (Try.isAgg28 _) (Try.sizeOf28 _) _ (by first | exact Kx.whole (by rfl) | (simp <;> rfl)) (by rfl) rfl) ?_; with_reducible rfl))
    case f20_415 => (go_simp; try with_reducible rfl)
    refine anyW_call (i := 21) (v := ?v21_416) (f := ?g21_416) (args := ?s21_416) (a' := ?a21_416) (by first | exact Kx.bears_x | assumption) rfl (by kernel_rfl) (by kernel_rfl) (by kernel_rfl) (fun _ _ _ h => h) (by kernel_rfl) ?c21_416 ?w21_416 ?y21_416 ?f21_416 ?r21_416
    case w21_416 => kernel_rfl
    case y21_416 => (intro W hW; go_simp; first | (refine ⟨?_, ?_⟩ <;> with_reducible rfl) | with_reducible rfl)
    case c21_416 => (intro W hW; refine Calls.mono (HS.out _) ?_; rintro e w_ ⟨rfl, hb_⟩; refine ⟨?_, by first | exact hb_ | exact hb_ ▸ Below.refl _ _⟩; with_reducible rfl)
    case f21_416 => (go_simp; try with_reducible rfl)
    refine anyW_take (i := 22) (v := ?v22_417) (a' := ?a22_417) (by first | exact Kx.bears_x | assumption) rfl (by kernel_rfl) (by kernel_rfl) (by kernel_rfl) (fun _ _ _ h => h) (by kernel_rfl) ?w22_417 ?y22_417 ?f22_417 ?r22_417
    case w22_417 => kernel_rfl
    case y22_417 => (intro w hC; go_simp; try with_reducible rfl)
    case f22_417 => (go_simp; try with_reducible rfl)
    refine anyW_take (i := 23) (v := ?v23_418) (a' := ?a23_418) (by first | exact Kx.bears_x | assumption) rfl (by kernel_rfl) (by kernel_rfl) (by kernel_rfl) (fun _ _ _ h => h) (by kernel_rfl) ?w23_418 ?y23_418 ?f23_418 ?r23_418
    case w23_418 => kernel_rfl
    case y23_418 => (intro w hC; go_simp; try with_reducible rfl)
    case f23_418 => (go_simp; try with_reducible rfl)
    refine anyW_done (by kernel_rfl) ?_
    clear HB
    intro w_ HB_
    have HB := Lib.hid HB_
    clear HB_
    go_wp2
    go_ret
    exact ⟨rfl, HB.out.below⟩
set_option maxRecDepth 100000 in
set_option maxHeartbeats 4000000 in
theorem late_fresh1 (nx : Int) (op : Bool) (nn sc : Int) (e wt n : Int) (w : World) (e0 : 0 ≤ e ∧ e ≤ 255) (w0 : 0 ≤ wt ∧ wt ≤ 255) (n0 : 0 ≤ n ∧ n ≤ 65535) :
    Calls Try.prog 8 #[.agg #[.int .i64 nx, .bool op, .int .i64 nn, .int .i64 sc, .bool true, .int .i64 0], .int .u8 e, .int .u8 wt, .int .u16 n, .int .i64 0] w fun e w' => e = .returned (.bool true) ∧ Below w.heap.size w w' := by
  obtain ⟨e0, e1⟩ := e0
  obtain ⟨w0, w1⟩ := w0
  obtain ⟨n0, n1⟩ := n0
  have HB := Lib.hid (Bxs.start w)
  have v1 : IntKind.i64.wrap e = e := by rw [IntKind.wrap_i64]; omega
  have v2 : IntKind.i64.wrap (1 + e) = 1 + e := by rw [IntKind.wrap_i64]; omega
  have v3 : IntKind.i64.wrap wt = wt := by rw [IntKind.wrap_i64]; omega
  have v4 : IntKind.i64.wrap (1 + wt) = 1 + wt := by rw [IntKind.wrap_i64]; omega
  have v5 : IntKind.i64.wrap n = n := by rw [IntKind.wrap_i64]; omega
  have v6 : IntKind.i64.wrap (n + (1 + wt)) = n + (1 + wt) := by rw [IntKind.wrap_i64]; omega
  have HT1 : Hid (∀ W, Calls Try.prog 10 #[.agg #[.int .i64 n, .bool false, .int .i64 nn, .int .i64 sc, .bool true, .int .i64 0], .agg (cf (mk (1 + e) (1 + wt) 2 2)).toArray, .int .i64 n, .int .i64 0] W fun e' w' => e' = .returned (.tuple #[.agg #[.int .i64 (Pm.bd (n + Pm.bd (1 + e))), .bool true, .int .i64 0, .int .i64 n, .bool true, .int .i64 0], .bool true]) ∧ Below W.heap.size W w') := Lib.hid fun W => by
    have h := Tick_any ⟨n, false, nn, sc, ⟨true, 0⟩⟩ (mk (1 + e) (1 + wt) 2 2) n 0 W
    dsimp only [mk] at h
    rw [late_first ⟨true, 0⟩ nn sc (1 + e) (1 + wt) n 0 n0 n1] at h
    exact h
  obtain ⟨q, b, hq, hs, ho⟩ := late_second ⟨true, 0⟩ (Pm.bd (n + Pm.bd (1 + e))) (1 + e) (1 + wt) n 0 1 n0 n1 (by omega) (by omega)
  have HT2 : Hid (∀ W, Calls Try.prog 10 #[.agg #[.int .i64 (Pm.bd (n + Pm.bd (1 + e))), .bool true, .int .i64 0, .int .i64 n, .bool true, .int .i64 0], .agg (cf (mk (1 + e) (1 + wt) 2 2)).toArray, .int .i64 (n + (1 + wt)), .int .i64 1] W fun e' w' => e' = .returned (.tuple #[.agg (pl q).toArray, .bool b]) ∧ Below W.heap.size W w') := Lib.hid fun W => by
    have h := Tick_any ⟨Pm.bd (n + Pm.bd (1 + e)), true, 0, n, ⟨true, 0⟩⟩ (mk (1 + e) (1 + wt) 2 2) (n + (1 + wt)) 1 W
    dsimp only [mk] at h
    rw [hq] at h
    exact h
  have HA1 : Hid (∀ W, Calls Try.prog 13 #[.agg (pl q).toArray, .agg (cf (mk (1 + e) (1 + wt) 2 2)).toArray, .int .i64 0] W fun e' w' => e' = .returned (.agg (pl q).toArray) ∧ Below W.heap.size W w') := Lib.hid fun W => by
    have h := Alive_any q (mk (1 + e) (1 + wt) 2 2) 0 W
    rw [late_third (o := 1) (fun k => (ho k).1) (by decide)] at h
    exact h
  have HA2 : Hid (∀ W, Calls Try.prog 13 #[.agg #[.int .i64 n, .bool false, .int .i64 nn, .int .i64 sc, .bool true, .int .i64 0], .agg (cf (mk (1 + e) (1 + wt) 2 2)).toArray, .int .i64 nn] W fun e' w' => e' = .returned (.agg #[.int .i64 n, .bool false, .int .i64 nn, .int .i64 sc, .bool true, .int .i64 0]) ∧ Below W.heap.size W w') := Lib.hid fun W => by
    have h := Alive_any ⟨n, false, nn, sc, ⟨true, 0⟩⟩ (mk (1 + e) (1 + wt) 2 2) nn W
    rw [Pm.alive_shut rfl] at h
    exact h
  have HS : Hid (∀ W, Calls Try.prog 12 #[.agg #[.int .i64 n, .bool false, .int .i64 nn, .int .i64 sc, .bool true, .int .i64 0], .agg #[.int .i64 n, .bool false, .int .i64 nn, .int .i64 sc, .bool true, .int .i64 0]] W fun e' w' => e' = .returned (.bool true) ∧ Below W.heap.size W w') := Lib.hid fun W => PSame_self ⟨n, false, nn, sc, ⟨true, 0⟩⟩ W
  have HM := Lib.hid (mk_built (1 + e) (1 + wt) 2 2)
  dsimp only [cf, mk] at HT1 HT2 HA1 HA2
  clear hq
  obtain ⟨qx, qo, qn, qs, ⟨qu, qr⟩⟩ := q
  have hs' : (⟨qu, qr⟩ : Hm.Hy) = ⟨true, 1⟩ := hs.trans (by decide)
  obtain ⟨rfl, rfl⟩ : qu = true ∧ qr = 1 := by injection hs' with h1 h2; exact ⟨h1, h2⟩
  clear hs'
  have hob : b = true ∨ (b = false ∧ qo = false) := by cases qo with
    | true => exact .inl (ho rfl).2
    | false => cases b <;> simp
  generalize Pm.bd (n + Pm.bd (1 + e)) = X at *
  have HO := Lib.hid hob
  clear hs ho hob
  go_enter Try.func8, Try.ntmps8
  go_wp2_with (first | ((with_reducible refine Kx.build_gate ?_); refine Km.wpList_build rfl 28 _ rfl #[(6, .int .i64 (1 + e)), (7, .int .i64 (1 + wt)), (8, .int .i64 2), (9, .int .i64 2)] rfl (cf (mk (1 + e) (1 + wt) 2 2)).toArray (HM.out) ?_; refine Kx.framed ?_ (by simp only [Act.put, List.setIfInBounds_toArray, List.set_cons_succ, List.set_cons_zero] <;> rfl)) | (go_at_call 9; refine Calls.mono (head_any _) ?_; rintro e w_ ⟨rfl, hb_⟩; replace HB := Lib.hid (HB.out.call hb_); clear hb_) | (go_at_call 10; with_reducible refine Kx.args_gate #[_, _, .int .i64 n, _] ?_; refine Calls.mono (HT1.out _) ?_; rintro e w_ ⟨rfl, hb_⟩; replace HB := Lib.hid (HB.out.call hb_); clear hb_) | (go_at_call 10; refine Calls.mono (HT2.out _) ?_; rintro e w_ ⟨rfl, hb_⟩; replace HB := Lib.hid (HB.out.call hb_); clear hb_) | (go_at_call 13; refine Calls.mono (HA1.out _) ?_; rintro e w_ ⟨rfl, hb_⟩; replace HB := Lib.hid (HB.out.call hb_); clear hb_) | (first | ((with_reducible refine Kx.absorb HB ?_); clear HB; intro w_ HB) | ((with_reducible refine Kx.box_gate ?_); first | (refine Kx.wpList_boxa_x HB rfl _ _ rfl _ rfl ?_; clear HB; intro b_ w_ HB; refine Kx.framed ?_ (by simp only [Act.put, List.setIfInBounds_toArray, List.set_cons_succ, List.set_cons_zero] <;> rfl)) | (refine Kx.wpList_boxt_x HB rfl _ _ rfl _ rfl rfl ?_; clear HB; intro b_ w_ HB; refine Kx.framed ?_ (by simp only [Act.put, List.setIfInBounds_toArray, List.set_cons_succ, List.set_cons_zero] <;> rfl)) | (refine Kx.wpList_box1_x HB rfl _ _ rfl _ rfl rfl ?_; clear HB; intro b_ w_ HB; refine Kx.framed ?_ (by simp only [Act.put, List.setIfInBounds_toArray, List.set_cons_succ, List.set_cons_zero] <;> rfl))) | ((with_reducible refine Kx.alloc_gate ?_); first | (refine Kx.wpList_alloca_x HB rfl _ rfl _ (Try.zeroValue25 _) ?_; clear HB; intro b_ w_ HB; refine Kx.framed ?_ (by simp only [Act.put, List.setIfInBounds_toArray, List.set_cons_succ, List.set_cons_zero] <;> rfl)) | (refine Kx.wpList_alloca_x HB rfl _ rfl _ (Try.zeroValue28 _) ?_; clear HB; intro b_ w_ HB; refine Kx.framed ?_ (by simp only [Act.put, List.setIfInBounds_toArray, List.set_cons_succ, List.set_cons_zero] <;> rfl)) | (refine Kx.wpList_alloc1_x HB rfl _ rfl _ (Try.zeroValue4 _) rfl ?_; clear HB; intro b_ w_ HB; refine Kx.framed ?_ (by simp only [Act.put, List.setIfInBounds_toArray, List.set_cons_succ, List.set_cons_zero] <;> rfl)) | (refine Kx.wpList_alloc1_x HB rfl _ rfl _ (Try.zeroValue3 _) rfl ?_; clear HB; intro b_ w_ HB; refine Kx.framed ?_ (by simp only [Act.put, List.setIfInBounds_toArray, List.set_cons_succ, List.set_cons_zero] <;> rfl)) | (refine Kx.wpList_alloc1_x HB rfl _ rfl _ (Try.zeroValue2 _) rfl ?_; clear HB; intro b_ w_ HB; refine Kx.framed ?_ (by simp only [Act.put, List.setIfInBounds_toArray, List.set_cons_succ, List.set_cons_zero] <;> rfl))) | ((with_reducible refine Kx.loads_gate ?_); first | (refine Kx.wpList_load1_x HB rfl _ _ rfl _ rfl _ (Try.isAgg4 _) _ rfl (Kx.framed ?_ (by simp only [Act.put, List.setIfInBounds_toArray, List.set_cons_succ, List.set_cons_zero] <;> rfl))) | (refine Kx.wpList_load1_x HB rfl _ _ rfl _ rfl _ (Try.isAgg3 _) _ rfl (Kx.framed ?_ (by simp only [Act.put, List.setIfInBounds_toArray, List.set_cons_succ, List.set_cons_zero] <;> rfl))) | (refine Kx.wpList_load1_x HB rfl _ _ rfl _ rfl _ (Try.isAgg2 _) _ rfl (Kx.framed ?_ (by simp only [Act.put, List.setIfInBounds_toArray, List.set_cons_succ, List.set_cons_zero] <;> rfl))) | (refine Kx.wpList_load_x HB rfl _ _ rfl _ rfl _ _ (Try.isAgg25 _) (Try.sizeOf25 _) _ (by first | exact Kx.whole (by rfl) | (simp <;> rfl)) (by rfl) (Kx.framed ?_ (by simp only [Act.put, List.setIfInBounds_toArray, List.set_cons_succ, List.set_cons_zero] <;> rfl))) | (refine Kx.wpList_load_x HB rfl _ _ rfl _ rfl _ _ (Try.isAgg28 _) (Try.sizeOf28 _) _ (by first | exact Kx.whole (by rfl) | (simp <;> rfl)) (by rfl) (Kx.framed ?_ (by simp only [Act.put, List.setIfInBounds_toArray, List.set_cons_succ, List.set_cons_zero] <;> rfl))) | (refine Kx.wpList_old_x HB rfl _ _ rfl _ rfl (Try.isAgg4 _) _ HC.out (Kx.framed ?_ (by simp only [Act.put, List.setIfInBounds_toArray, List.set_cons_succ, List.set_cons_zero] <;> rfl))) | (refine Kx.wpList_old_x HB rfl _ _ rfl _ rfl (Try.isAgg3 _) _ HC.out (Kx.framed ?_ (by simp only [Act.put, List.setIfInBounds_toArray, List.set_cons_succ, List.set_cons_zero] <;> rfl))) | (refine Kx.wpList_old_x HB rfl _ _ rfl _ rfl (Try.isAgg2 _) _ HC.out (Kx.framed ?_ (by simp only [Act.put, List.setIfInBounds_toArray, List.set_cons_succ, List.set_cons_zero] <;> rfl)))) | ((with_reducible refine Kx.loadg_gate ?_); first | (refine Kx.wpList_loadg_x HB _ _ rfl _ rfl _ (Try.isAgg4 _) _ rfl rfl (Kx.framed ?_ (by simp only [Act.put, List.setIfInBounds_toArray, List.set_cons_succ, List.set_cons_zero] <;> rfl))) | (refine Kx.wpList_loadg_x HB _ _ rfl _ rfl _ (Try.isAgg3 _) _ rfl rfl (Kx.framed ?_ (by simp only [Act.put, List.setIfInBounds_toArray, List.set_cons_succ, List.set_cons_zero] <;> rfl))) | (refine Kx.wpList_loadg_x HB _ _ rfl _ rfl _ (Try.isAgg2 _) _ rfl rfl (Kx.framed ?_ (by simp only [Act.put, List.setIfInBounds_toArray, List.set_cons_succ, List.set_cons_zero] <;> rfl))) | (refine Kx.wpList_loadga_x HB _ _ rfl _ rfl _ _ (Try.isAgg25 _) (Try.sizeOf25 _) _ (by first | exact Kx.whole (by rfl) | (simp <;> rfl)) (by rfl) rfl (Kx.framed ?_ (by simp only [Act.put, List.setIfInBounds_toArray, List.set_cons_succ, List.set_cons_zero] <;> rfl))) | (refine Kx.wpList_loadga_x HB _ _ rfl _ rfl _ _ (Try.isAgg28 _) (Try.sizeOf28 _) _ (by first | exact Kx.whole (by rfl) | (simp <;> rfl)) (by rfl) rfl (Kx.framed ?_ (by simp only [Act.put, List.setIfInBounds_toArray, List.set_cons_succ, List.set_cons_zero] <;> rfl))) | (refine Kx.wpList_oldg_x HB _ _ rfl _ rfl (Try.isAgg4 _) _ HC.out rfl (Kx.framed ?_ (by simp only [Act.put, List.setIfInBounds_toArray, List.set_cons_succ, List.set_cons_zero] <;> rfl))) | (refine Kx.wpList_oldg_x HB _ _ rfl _ rfl (Try.isAgg3 _) _ HC.out rfl (Kx.framed ?_ (by simp only [Act.put, List.setIfInBounds_toArray, List.set_cons_succ, List.set_cons_zero] <;> rfl))) | (refine Kx.wpList_oldg_x HB _ _ rfl _ rfl (Try.isAgg2 _) _ HC.out rfl (Kx.framed ?_ (by simp only [Act.put, List.setIfInBounds_toArray, List.set_cons_succ, List.set_cons_zero] <;> rfl)))) | ((with_reducible refine Kx.store_gate ?_); first | (refine Kx.wpList_storewa_x HB rfl rfl _ _ _ rfl _ rfl _ rfl _ (by rfl) (by simp <;> rfl) (by rfl) ?_; clear HB; intro w_ HB) | (refine Kx.wpList_storea_x HB rfl rfl _ _ _ rfl _ rfl _ rfl _ _ (by simp [Kx.splice] <;> rfl) (by simp) (by simp <;> rfl) (by rfl) ?_; clear HB; intro w_ HB) | (refine Kx.wpList_storec_x HB rfl rfl _ _ _ rfl _ rfl rfl _ _ (by simp <;> rfl) (by simp) (by simp <;> rfl) ?_; clear HB; intro w_ HB) | (refine Kx.wpList_storet_x HB rfl rfl _ _ _ rfl _ rfl _ rfl rfl _ _ (by simp <;> rfl) (by simp) (by simp <;> rfl) ?_; clear HB; intro w_ HB) | (refine Kx.wpList_store1_x HB rfl rfl _ _ _ rfl _ rfl _ rfl rfl _ _ (by simp <;> rfl) (by simp) (by simp <;> rfl) ?_; clear HB; intro w_ HB))))
  rcases HO.out with rfl | ⟨rfl, rfl⟩
  · clear HO
    refine Kx.region_x HB (fun i => false) (by kernel_rfl) ?_
    refine anyW_take (i := 0) (v := ?v0_419) (a' := ?a0_419) (by first | exact Kx.bears_x | assumption) rfl (by kernel_rfl) (by kernel_rfl) (by kernel_rfl) (fun _ _ _ h => h) (by kernel_rfl) ?w0_419 ?y0_419 ?f0_419 ?r0_419
    case w0_419 => kernel_rfl
    case y0_419 => (intro w hC; go_simp; try with_reducible rfl)
    case f0_419 => (go_simp; try with_reducible rfl)
    refine anyW_take (i := 1) (v := ?v1_420) (a' := ?a1_420) (by first | exact Kx.bears_x | assumption) rfl (by kernel_rfl) (by kernel_rfl) (by kernel_rfl) (fun _ _ _ h => h) (by kernel_rfl) ?w1_420 ?y1_420 ?f1_420 ?r1_420
    case w1_420 => kernel_rfl
    case y1_420 => (intro w hC; go_simp; try with_reducible rfl)
    case f1_420 => (go_simp; try with_reducible rfl)
    refine anyW_take (i := 2) (v := ?v2_421) (a' := ?a2_421) (by first | exact Kx.bears_x | assumption) rfl (by kernel_rfl) (by kernel_rfl) (by kernel_rfl) (fun _ _ _ h => h) (by kernel_rfl) ?w2_421 ?y2_421 ?f2_421 ?r2_421
    case w2_421 => kernel_rfl
    case y2_421 => (intro w hC; go_simp; try with_reducible rfl)
    case f2_421 => (go_simp; try with_reducible rfl)
    refine anyW_take (i := 3) (v := ?v3_422) (a' := ?a3_422) (by first | exact Kx.bears_x | assumption) rfl (by kernel_rfl) (by kernel_rfl) (by kernel_rfl) (fun _ _ _ h => h) (by kernel_rfl) ?w3_422 ?y3_422 ?f3_422 ?r3_422
    case w3_422 => kernel_rfl
    case y3_422 => (intro w hC; go_simp; try with_reducible rfl)
    case f3_422 => (go_simp; try with_reducible rfl)
    refine anyW_skip (i := 4) (a' := ?a4_423) (by first | exact Kx.bears_x | assumption) rfl (by kernel_rfl) (by kernel_rfl) (by kernel_rfl) (fun _ _ _ h => h) (by kernel_rfl) (by kernel_rfl) ?f4_423 ?r4_423
    case f4_423 => (go_simp; try with_reducible rfl)
    refine anyW_skip (i := 5) (a' := ?a5_424) (by first | exact Kx.bears_x | assumption) rfl (by kernel_rfl) (by kernel_rfl) (by kernel_rfl) (fun _ _ _ h => h) (by kernel_rfl) (by kernel_rfl) ?f5_424 ?r5_424
    case f5_424 => (go_simp; try with_reducible rfl)
    refine anyW_skip (i := 6) (a' := ?a6_425) (by first | exact Kx.bears_x | assumption) rfl (by kernel_rfl) (by kernel_rfl) (by kernel_rfl) (fun _ _ _ h => h) (by kernel_rfl) (by kernel_rfl) ?f6_425 ?r6_425
    case f6_425 => (go_simp; try with_reducible rfl)
    refine anyW_take (i := 7) (v := ?v7_426) (a' := ?a7_426) (by first | exact Kx.bears_x | assumption) rfl (by kernel_rfl) (by kernel_rfl) (by kernel_rfl) (fun _ _ _ h => h) (by kernel_rfl) ?w7_426 ?y7_426 ?f7_426 ?r7_426
    case w7_426 => kernel_rfl
    case y7_426 => (intro w hC; go_simp; try with_reducible rfl)
    case f7_426 => (go_simp; try with_reducible rfl)
    refine anyW_take (i := 8) (v := ?v8_427) (a' := ?a8_427) (by first | exact Kx.bears_x | assumption) rfl (by kernel_rfl) (by kernel_rfl) (by kernel_rfl) (fun _ _ _ h => h) (by kernel_rfl) ?w8_427 ?y8_427 ?f8_427 ?r8_427
    case w8_427 => kernel_rfl
    case y8_427 => (intro w hC; go_simp; try with_reducible rfl)
    case f8_427 => (go_simp; try with_reducible rfl)
    refine anyW_take (i := 9) (v := ?v9_428) (a' := ?a9_428) (by first | exact Kx.bears_x | assumption) rfl (by kernel_rfl) (by kernel_rfl) (by kernel_rfl) (fun _ _ _ h => h) (by kernel_rfl) ?w9_428 ?y9_428 ?f9_428 ?r9_428
    case w9_428 => kernel_rfl
    case y9_428 => (intro w hC; go_simp; try with_reducible rfl)
    case f9_428 => (go_simp; try with_reducible rfl)
    refine anyW_take (i := 10) (v := ?v10_429) (a' := ?a10_429) (by first | exact Kx.bears_x | assumption) rfl (by kernel_rfl) (by kernel_rfl) (by kernel_rfl) (fun _ _ _ h => h) (by kernel_rfl) ?w10_429 ?y10_429 ?f10_429 ?r10_429
    case w10_429 => kernel_rfl
    case y10_429 => (intro W hW; first | (refine Eq.trans (Kx.tells_load1_x hW _ _ rfl _ inferInstance (Try.isAgg4 _) rfl) ?_; with_reducible rfl) | (refine Eq.trans (Kx.tells_load1_x hW _ _ rfl _ inferInstance (Try.isAgg3 _) rfl) ?_; with_reducible rfl) | (refine Eq.trans (Kx.tells_load1_x hW _ _ rfl _ inferInstance (Try.isAgg2 _) rfl) ?_; with_reducible rfl) | (refine Eq.trans (Kx.tells_old_x hW _ rfl (Try.isAgg4 _) HC.out) ?_; with_reducible rfl) | (refine Eq.trans (Kx.tells_old_x hW _ rfl (Try.isAgg3 _) HC.out) ?_; with_reducible rfl) | (refine Eq.trans (Kx.tells_old_x hW _ rfl (Try.isAgg2 _) HC.out) ?_; with_reducible rfl) | (refine Eq.trans (Kx.tells_load_x hW _ _ rfl _ inferInstance _ (Try.isAgg25 _) (Try.sizeOf25 _) _ (by first | exact Kx.whole (by rfl) | (simp <;> rfl)) (by rfl) rfl) ?_; with_reducible rfl) | (refine Eq.trans (Kx.tells_load_x hW _ _ rfl _ inferInstance _ (Try.isAgg28 _) (Try.sizeOf28 _) _ (by first | exact Kx.whole (by rfl) | (simp <;> rfl)) (by rfl) rfl) ?_; with_reducible rfl))
    case f10_429 => (go_simp; try with_reducible rfl)
    refine anyW_take (i := 11) (v := ?v11_430) (a' := ?a11_430) (by first | exact Kx.bears_x | assumption) rfl (by kernel_rfl) (by kernel_rfl) (by kernel_rfl) (fun _ _ _ h => h) (by kernel_rfl) ?w11_430 ?y11_430 ?f11_430 ?r11_430
    case w11_430 => kernel_rfl
    case y11_430 => (intro W hW; first | (refine Eq.trans (Kx.tells_load1_x hW _ _ rfl _ inferInstance (Try.isAgg4 _) rfl) ?_; with_reducible rfl) | (refine Eq.trans (Kx.tells_load1_x hW _ _ rfl _ inferInstance (Try.isAgg3 _) rfl) ?_; with_reducible rfl) | (refine Eq.trans (Kx.tells_load1_x hW _ _ rfl _ inferInstance (Try.isAgg2 _) rfl) ?_; with_reducible rfl) | (refine Eq.trans (Kx.tells_old_x hW _ rfl (Try.isAgg4 _) HC.out) ?_; with_reducible rfl) | (refine Eq.trans (Kx.tells_old_x hW _ rfl (Try.isAgg3 _) HC.out) ?_; with_reducible rfl) | (refine Eq.trans (Kx.tells_old_x hW _ rfl (Try.isAgg2 _) HC.out) ?_; with_reducible rfl) | (refine Eq.trans (Kx.tells_load_x hW _ _ rfl _ inferInstance _ (Try.isAgg25 _) (Try.sizeOf25 _) _ (by first | exact Kx.whole (by rfl) | (simp <;> rfl)) (by rfl) rfl) ?_; with_reducible rfl) | (refine Eq.trans (Kx.tells_load_x hW _ _ rfl _ inferInstance _ (Try.isAgg28 _) (Try.sizeOf28 _) _ (by first | exact Kx.whole (by rfl) | (simp <;> rfl)) (by rfl) rfl) ?_; with_reducible rfl))
    case f11_430 => (go_simp; try with_reducible rfl)
    refine anyW_call (i := 12) (v := ?v12_431) (f := ?g12_431) (args := ?s12_431) (a' := ?a12_431) (by first | exact Kx.bears_x | assumption) rfl (by kernel_rfl) (by kernel_rfl) (by kernel_rfl) (fun _ _ _ h => h) (by kernel_rfl) ?c12_431 ?w12_431 ?y12_431 ?f12_431 ?r12_431
    case w12_431 => kernel_rfl
    case y12_431 => (intro W hW; go_simp; first | (refine ⟨?_, ?_⟩ <;> with_reducible rfl) | with_reducible rfl)
    case c12_431 => (intro W hW; refine Calls.mono (PSame_self ⟨_, _, _, _, ⟨_, _⟩⟩ _) ?_; rintro e w_ ⟨rfl, hb_⟩; refine ⟨?_, by first | exact hb_ | exact hb_ ▸ Below.refl _ _⟩; with_reducible rfl)
    case f12_431 => (go_simp; try with_reducible rfl)
    refine anyW_take (i := 13) (v := ?v13_432) (a' := ?a13_432) (by first | exact Kx.bears_x | assumption) rfl (by kernel_rfl) (by kernel_rfl) (by kernel_rfl) (fun _ _ _ h => h) (by kernel_rfl) ?w13_432 ?y13_432 ?f13_432 ?r13_432
    case w13_432 => kernel_rfl
    case y13_432 => (intro w hC; go_simp; try with_reducible rfl)
    case f13_432 => (go_simp; try with_reducible rfl)
    refine anyW_take (i := 14) (v := ?v14_433) (a' := ?a14_433) (by first | exact Kx.bears_x | assumption) rfl (by kernel_rfl) (by kernel_rfl) (by kernel_rfl) (fun _ _ _ h => h) (by kernel_rfl) ?w14_433 ?y14_433 ?f14_433 ?r14_433
    case w14_433 => kernel_rfl
    case y14_433 => (intro w hC; go_simp; try with_reducible rfl)
    case f14_433 => (go_simp; try with_reducible rfl)
    refine anyW_take (i := 15) (v := ?v15_434) (a' := ?a15_434) (by first | exact Kx.bears_x | assumption) rfl (by kernel_rfl) (by kernel_rfl) (by kernel_rfl) (fun _ _ _ h => h) (by kernel_rfl) ?w15_434 ?y15_434 ?f15_434 ?r15_434
    case w15_434 => kernel_rfl
    case y15_434 => (intro W hW; first | (refine Eq.trans (Kx.tells_load1_x hW _ _ rfl _ inferInstance (Try.isAgg4 _) rfl) ?_; with_reducible rfl) | (refine Eq.trans (Kx.tells_load1_x hW _ _ rfl _ inferInstance (Try.isAgg3 _) rfl) ?_; with_reducible rfl) | (refine Eq.trans (Kx.tells_load1_x hW _ _ rfl _ inferInstance (Try.isAgg2 _) rfl) ?_; with_reducible rfl) | (refine Eq.trans (Kx.tells_old_x hW _ rfl (Try.isAgg4 _) HC.out) ?_; with_reducible rfl) | (refine Eq.trans (Kx.tells_old_x hW _ rfl (Try.isAgg3 _) HC.out) ?_; with_reducible rfl) | (refine Eq.trans (Kx.tells_old_x hW _ rfl (Try.isAgg2 _) HC.out) ?_; with_reducible rfl) | (refine Eq.trans (Kx.tells_load_x hW _ _ rfl _ inferInstance _ (Try.isAgg25 _) (Try.sizeOf25 _) _ (by first | exact Kx.whole (by rfl) | (simp <;> rfl)) (by rfl) rfl) ?_; with_reducible rfl) | (refine Eq.trans (Kx.tells_load_x hW _ _ rfl _ inferInstance _ (Try.isAgg28 _) (Try.sizeOf28 _) _ (by first | exact Kx.whole (by rfl) | (simp <;> rfl)) (by rfl) rfl) ?_; with_reducible rfl))
    case f15_434 => (go_simp; try with_reducible rfl)
    refine anyW_take (i := 16) (v := ?v16_435) (a' := ?a16_435) (by first | exact Kx.bears_x | assumption) rfl (by kernel_rfl) (by kernel_rfl) (by kernel_rfl) (fun _ _ _ h => h) (by kernel_rfl) ?w16_435 ?y16_435 ?f16_435 ?r16_435
    case w16_435 => kernel_rfl
    case y16_435 => (intro W hW; first | (refine Eq.trans (Kx.tells_load1_x hW _ _ rfl _ inferInstance (Try.isAgg4 _) rfl) ?_; with_reducible rfl) | (refine Eq.trans (Kx.tells_load1_x hW _ _ rfl _ inferInstance (Try.isAgg3 _) rfl) ?_; with_reducible rfl) | (refine Eq.trans (Kx.tells_load1_x hW _ _ rfl _ inferInstance (Try.isAgg2 _) rfl) ?_; with_reducible rfl) | (refine Eq.trans (Kx.tells_old_x hW _ rfl (Try.isAgg4 _) HC.out) ?_; with_reducible rfl) | (refine Eq.trans (Kx.tells_old_x hW _ rfl (Try.isAgg3 _) HC.out) ?_; with_reducible rfl) | (refine Eq.trans (Kx.tells_old_x hW _ rfl (Try.isAgg2 _) HC.out) ?_; with_reducible rfl) | (refine Eq.trans (Kx.tells_load_x hW _ _ rfl _ inferInstance _ (Try.isAgg25 _) (Try.sizeOf25 _) _ (by first | exact Kx.whole (by rfl) | (simp <;> rfl)) (by rfl) rfl) ?_; with_reducible rfl) | (refine Eq.trans (Kx.tells_load_x hW _ _ rfl _ inferInstance _ (Try.isAgg28 _) (Try.sizeOf28 _) _ (by first | exact Kx.whole (by rfl) | (simp <;> rfl)) (by rfl) rfl) ?_; with_reducible rfl))
    case f16_435 => (go_simp; try with_reducible rfl)
    refine anyW_take (i := 17) (v := ?v17_436) (a' := ?a17_436) (by first | exact Kx.bears_x | assumption) rfl (by kernel_rfl) (by kernel_rfl) (by kernel_rfl) (fun _ _ _ h => h) (by kernel_rfl) ?w17_436 ?y17_436 ?f17_436 ?r17_436
    case w17_436 => kernel_rfl
    case y17_436 => (intro w hC; go_simp; try with_reducible rfl)
    case f17_436 => (go_simp; try with_reducible rfl)
    refine anyW_take (i := 18) (v := ?v18_437) (a' := ?a18_437) (by first | exact Kx.bears_x | assumption) rfl (by kernel_rfl) (by kernel_rfl) (by kernel_rfl) (fun _ _ _ h => h) (by kernel_rfl) ?w18_437 ?y18_437 ?f18_437 ?r18_437
    case w18_437 => kernel_rfl
    case y18_437 => (intro W hW; first | (refine Eq.trans (Kx.tells_load1_x hW _ _ rfl _ inferInstance (Try.isAgg4 _) rfl) ?_; with_reducible rfl) | (refine Eq.trans (Kx.tells_load1_x hW _ _ rfl _ inferInstance (Try.isAgg3 _) rfl) ?_; with_reducible rfl) | (refine Eq.trans (Kx.tells_load1_x hW _ _ rfl _ inferInstance (Try.isAgg2 _) rfl) ?_; with_reducible rfl) | (refine Eq.trans (Kx.tells_old_x hW _ rfl (Try.isAgg4 _) HC.out) ?_; with_reducible rfl) | (refine Eq.trans (Kx.tells_old_x hW _ rfl (Try.isAgg3 _) HC.out) ?_; with_reducible rfl) | (refine Eq.trans (Kx.tells_old_x hW _ rfl (Try.isAgg2 _) HC.out) ?_; with_reducible rfl) | (refine Eq.trans (Kx.tells_load_x hW _ _ rfl _ inferInstance _ (Try.isAgg25 _) (Try.sizeOf25 _) _ (by first | exact Kx.whole (by rfl) | (simp <;> rfl)) (by rfl) rfl) ?_; with_reducible rfl) | (refine Eq.trans (Kx.tells_load_x hW _ _ rfl _ inferInstance _ (Try.isAgg28 _) (Try.sizeOf28 _) _ (by first | exact Kx.whole (by rfl) | (simp <;> rfl)) (by rfl) rfl) ?_; with_reducible rfl))
    case f18_437 => (go_simp; try with_reducible rfl)
    refine anyW_call (i := 19) (v := ?v19_438) (f := ?g19_438) (args := ?s19_438) (a' := ?a19_438) (by first | exact Kx.bears_x | assumption) rfl (by kernel_rfl) (by kernel_rfl) (by kernel_rfl) (fun _ _ _ h => h) (by kernel_rfl) ?c19_438 ?w19_438 ?y19_438 ?f19_438 ?r19_438
    case w19_438 => kernel_rfl
    case y19_438 => (intro W hW; go_simp; first | (refine ⟨?_, ?_⟩ <;> with_reducible rfl) | with_reducible rfl)
    case c19_438 => (intro W hW; refine Calls.mono (HA2.out _) ?_; rintro e w_ ⟨rfl, hb_⟩; refine ⟨?_, by first | exact hb_ | exact hb_ ▸ Below.refl _ _⟩; with_reducible rfl)
    case f19_438 => (go_simp; try with_reducible rfl)
    refine anyW_take (i := 20) (v := ?v20_439) (a' := ?a20_439) (by first | exact Kx.bears_x | assumption) rfl (by kernel_rfl) (by kernel_rfl) (by kernel_rfl) (fun _ _ _ h => h) (by kernel_rfl) ?w20_439 ?y20_439 ?f20_439 ?r20_439
    case w20_439 => kernel_rfl
    case y20_439 => (intro W hW; first | (refine Eq.trans (Kx.tells_load1_x hW _ _ rfl _ inferInstance (Try.isAgg4 _) rfl) ?_; with_reducible rfl) | (refine Eq.trans (Kx.tells_load1_x hW _ _ rfl _ inferInstance (Try.isAgg3 _) rfl) ?_; with_reducible rfl) | (refine Eq.trans (Kx.tells_load1_x hW _ _ rfl _ inferInstance (Try.isAgg2 _) rfl) ?_; with_reducible rfl) | (refine Eq.trans (Kx.tells_old_x hW _ rfl (Try.isAgg4 _) HC.out) ?_; with_reducible rfl) | (refine Eq.trans (Kx.tells_old_x hW _ rfl (Try.isAgg3 _) HC.out) ?_; with_reducible rfl) | (refine Eq.trans (Kx.tells_old_x hW _ rfl (Try.isAgg2 _) HC.out) ?_; with_reducible rfl) | (refine Eq.trans (Kx.tells_load_x hW _ _ rfl _ inferInstance _ (Try.isAgg25 _) (Try.sizeOf25 _) _ (by first | exact Kx.whole (by rfl) | (simp <;> rfl)) (by rfl) rfl) ?_; with_reducible rfl) | (refine Eq.trans (Kx.tells_load_x hW _ _ rfl _ inferInstance _ (Try.isAgg28 _) (Try.sizeOf28 _) _ (by first | exact Kx.whole (by rfl) | (simp <;> rfl)) (by rfl) rfl) ?_; with_reducible rfl))
    case f20_439 => (go_simp; try with_reducible rfl)
    refine anyW_call (i := 21) (v := ?v21_440) (f := ?g21_440) (args := ?s21_440) (a' := ?a21_440) (by first | exact Kx.bears_x | assumption) rfl (by kernel_rfl) (by kernel_rfl) (by kernel_rfl) (fun _ _ _ h => h) (by kernel_rfl) ?c21_440 ?w21_440 ?y21_440 ?f21_440 ?r21_440
    case w21_440 => kernel_rfl
    case y21_440 => (intro W hW; go_simp; first | (refine ⟨?_, ?_⟩ <;> with_reducible rfl) | with_reducible rfl)
    case c21_440 => (intro W hW; refine Calls.mono (HS.out _) ?_; rintro e w_ ⟨rfl, hb_⟩; refine ⟨?_, by first | exact hb_ | exact hb_ ▸ Below.refl _ _⟩; with_reducible rfl)
    case f21_440 => (go_simp; try with_reducible rfl)
    refine anyW_take (i := 22) (v := ?v22_441) (a' := ?a22_441) (by first | exact Kx.bears_x | assumption) rfl (by kernel_rfl) (by kernel_rfl) (by kernel_rfl) (fun _ _ _ h => h) (by kernel_rfl) ?w22_441 ?y22_441 ?f22_441 ?r22_441
    case w22_441 => kernel_rfl
    case y22_441 => (intro w hC; go_simp; try with_reducible rfl)
    case f22_441 => (go_simp; try with_reducible rfl)
    refine anyW_take (i := 23) (v := ?v23_442) (a' := ?a23_442) (by first | exact Kx.bears_x | assumption) rfl (by kernel_rfl) (by kernel_rfl) (by kernel_rfl) (fun _ _ _ h => h) (by kernel_rfl) ?w23_442 ?y23_442 ?f23_442 ?r23_442
    case w23_442 => kernel_rfl
    case y23_442 => (intro w hC; go_simp; try with_reducible rfl)
    case f23_442 => (go_simp; try with_reducible rfl)
    refine anyW_done (by kernel_rfl) ?_
    clear HB
    intro w_ HB_
    have HB := Lib.hid HB_
    clear HB_
    go_wp2
    go_ret
    exact ⟨rfl, HB.out.below⟩
  · clear HO
    refine Kx.region_x HB (fun i => false) (by kernel_rfl) ?_
    refine anyW_take (i := 0) (v := ?v0_443) (a' := ?a0_443) (by first | exact Kx.bears_x | assumption) rfl (by kernel_rfl) (by kernel_rfl) (by kernel_rfl) (fun _ _ _ h => h) (by kernel_rfl) ?w0_443 ?y0_443 ?f0_443 ?r0_443
    case w0_443 => kernel_rfl
    case y0_443 => (intro w hC; go_simp; try with_reducible rfl)
    case f0_443 => (go_simp; try with_reducible rfl)
    refine anyW_take (i := 1) (v := ?v1_444) (a' := ?a1_444) (by first | exact Kx.bears_x | assumption) rfl (by kernel_rfl) (by kernel_rfl) (by kernel_rfl) (fun _ _ _ h => h) (by kernel_rfl) ?w1_444 ?y1_444 ?f1_444 ?r1_444
    case w1_444 => kernel_rfl
    case y1_444 => (intro w hC; go_simp; try with_reducible rfl)
    case f1_444 => (go_simp; try with_reducible rfl)
    refine anyW_take (i := 2) (v := ?v2_445) (a' := ?a2_445) (by first | exact Kx.bears_x | assumption) rfl (by kernel_rfl) (by kernel_rfl) (by kernel_rfl) (fun _ _ _ h => h) (by kernel_rfl) ?w2_445 ?y2_445 ?f2_445 ?r2_445
    case w2_445 => kernel_rfl
    case y2_445 => (intro w hC; go_simp; try with_reducible rfl)
    case f2_445 => (go_simp; try with_reducible rfl)
    refine anyW_take (i := 3) (v := ?v3_446) (a' := ?a3_446) (by first | exact Kx.bears_x | assumption) rfl (by kernel_rfl) (by kernel_rfl) (by kernel_rfl) (fun _ _ _ h => h) (by kernel_rfl) ?w3_446 ?y3_446 ?f3_446 ?r3_446
    case w3_446 => kernel_rfl
    case y3_446 => (intro w hC; go_simp; try with_reducible rfl)
    case f3_446 => (go_simp; try with_reducible rfl)
    refine anyW_take (i := 4) (v := ?v4_447) (a' := ?a4_447) (by first | exact Kx.bears_x | assumption) rfl (by kernel_rfl) (by kernel_rfl) (by kernel_rfl) (fun _ _ _ h => h) (by kernel_rfl) ?w4_447 ?y4_447 ?f4_447 ?r4_447
    case w4_447 => kernel_rfl
    case y4_447 => (intro w hC; go_simp; try with_reducible rfl)
    case f4_447 => (go_simp; try with_reducible rfl)
    refine anyW_take (i := 5) (v := ?v5_448) (a' := ?a5_448) (by first | exact Kx.bears_x | assumption) rfl (by kernel_rfl) (by kernel_rfl) (by kernel_rfl) (fun _ _ _ h => h) (by kernel_rfl) ?w5_448 ?y5_448 ?f5_448 ?r5_448
    case w5_448 => kernel_rfl
    case y5_448 => (intro W hW; first | (refine Eq.trans (Kx.tells_load1_x hW _ _ rfl _ inferInstance (Try.isAgg4 _) rfl) ?_; with_reducible rfl) | (refine Eq.trans (Kx.tells_load1_x hW _ _ rfl _ inferInstance (Try.isAgg3 _) rfl) ?_; with_reducible rfl) | (refine Eq.trans (Kx.tells_load1_x hW _ _ rfl _ inferInstance (Try.isAgg2 _) rfl) ?_; with_reducible rfl) | (refine Eq.trans (Kx.tells_old_x hW _ rfl (Try.isAgg4 _) HC.out) ?_; with_reducible rfl) | (refine Eq.trans (Kx.tells_old_x hW _ rfl (Try.isAgg3 _) HC.out) ?_; with_reducible rfl) | (refine Eq.trans (Kx.tells_old_x hW _ rfl (Try.isAgg2 _) HC.out) ?_; with_reducible rfl) | (refine Eq.trans (Kx.tells_load_x hW _ _ rfl _ inferInstance _ (Try.isAgg25 _) (Try.sizeOf25 _) _ (by first | exact Kx.whole (by rfl) | (simp <;> rfl)) (by rfl) rfl) ?_; with_reducible rfl) | (refine Eq.trans (Kx.tells_load_x hW _ _ rfl _ inferInstance _ (Try.isAgg28 _) (Try.sizeOf28 _) _ (by first | exact Kx.whole (by rfl) | (simp <;> rfl)) (by rfl) rfl) ?_; with_reducible rfl))
    case f5_448 => (go_simp; try with_reducible rfl)
    refine anyW_take (i := 6) (v := ?v6_449) (a' := ?a6_449) (by first | exact Kx.bears_x | assumption) rfl (by kernel_rfl) (by kernel_rfl) (by kernel_rfl) (fun _ _ _ h => h) (by kernel_rfl) ?w6_449 ?y6_449 ?f6_449 ?r6_449
    case w6_449 => kernel_rfl
    case y6_449 => (intro w hC; go_simp; try with_reducible rfl)
    case f6_449 => (go_simp; try with_reducible rfl)
    refine anyW_take (i := 7) (v := ?v7_450) (a' := ?a7_450) (by first | exact Kx.bears_x | assumption) rfl (by kernel_rfl) (by kernel_rfl) (by kernel_rfl) (fun _ _ _ h => h) (by kernel_rfl) ?w7_450 ?y7_450 ?f7_450 ?r7_450
    case w7_450 => kernel_rfl
    case y7_450 => (intro w hC; go_simp; try with_reducible rfl)
    case f7_450 => (go_simp; try with_reducible rfl)
    refine anyW_take (i := 8) (v := ?v8_451) (a' := ?a8_451) (by first | exact Kx.bears_x | assumption) rfl (by kernel_rfl) (by kernel_rfl) (by kernel_rfl) (fun _ _ _ h => h) (by kernel_rfl) ?w8_451 ?y8_451 ?f8_451 ?r8_451
    case w8_451 => kernel_rfl
    case y8_451 => (intro w hC; go_simp; try with_reducible rfl)
    case f8_451 => (go_simp; try with_reducible rfl)
    refine anyW_take (i := 9) (v := ?v9_452) (a' := ?a9_452) (by first | exact Kx.bears_x | assumption) rfl (by kernel_rfl) (by kernel_rfl) (by kernel_rfl) (fun _ _ _ h => h) (by kernel_rfl) ?w9_452 ?y9_452 ?f9_452 ?r9_452
    case w9_452 => kernel_rfl
    case y9_452 => (intro w hC; go_simp; try with_reducible rfl)
    case f9_452 => (go_simp; try with_reducible rfl)
    refine anyW_take (i := 10) (v := ?v10_453) (a' := ?a10_453) (by first | exact Kx.bears_x | assumption) rfl (by kernel_rfl) (by kernel_rfl) (by kernel_rfl) (fun _ _ _ h => h) (by kernel_rfl) ?w10_453 ?y10_453 ?f10_453 ?r10_453
    case w10_453 => kernel_rfl
    case y10_453 => (intro W hW; first | (refine Eq.trans (Kx.tells_load1_x hW _ _ rfl _ inferInstance (Try.isAgg4 _) rfl) ?_; with_reducible rfl) | (refine Eq.trans (Kx.tells_load1_x hW _ _ rfl _ inferInstance (Try.isAgg3 _) rfl) ?_; with_reducible rfl) | (refine Eq.trans (Kx.tells_load1_x hW _ _ rfl _ inferInstance (Try.isAgg2 _) rfl) ?_; with_reducible rfl) | (refine Eq.trans (Kx.tells_old_x hW _ rfl (Try.isAgg4 _) HC.out) ?_; with_reducible rfl) | (refine Eq.trans (Kx.tells_old_x hW _ rfl (Try.isAgg3 _) HC.out) ?_; with_reducible rfl) | (refine Eq.trans (Kx.tells_old_x hW _ rfl (Try.isAgg2 _) HC.out) ?_; with_reducible rfl) | (refine Eq.trans (Kx.tells_load_x hW _ _ rfl _ inferInstance _ (Try.isAgg25 _) (Try.sizeOf25 _) _ (by first | exact Kx.whole (by rfl) | (simp <;> rfl)) (by rfl) rfl) ?_; with_reducible rfl) | (refine Eq.trans (Kx.tells_load_x hW _ _ rfl _ inferInstance _ (Try.isAgg28 _) (Try.sizeOf28 _) _ (by first | exact Kx.whole (by rfl) | (simp <;> rfl)) (by rfl) rfl) ?_; with_reducible rfl))
    case f10_453 => (go_simp; try with_reducible rfl)
    refine anyW_take (i := 11) (v := ?v11_454) (a' := ?a11_454) (by first | exact Kx.bears_x | assumption) rfl (by kernel_rfl) (by kernel_rfl) (by kernel_rfl) (fun _ _ _ h => h) (by kernel_rfl) ?w11_454 ?y11_454 ?f11_454 ?r11_454
    case w11_454 => kernel_rfl
    case y11_454 => (intro W hW; first | (refine Eq.trans (Kx.tells_load1_x hW _ _ rfl _ inferInstance (Try.isAgg4 _) rfl) ?_; with_reducible rfl) | (refine Eq.trans (Kx.tells_load1_x hW _ _ rfl _ inferInstance (Try.isAgg3 _) rfl) ?_; with_reducible rfl) | (refine Eq.trans (Kx.tells_load1_x hW _ _ rfl _ inferInstance (Try.isAgg2 _) rfl) ?_; with_reducible rfl) | (refine Eq.trans (Kx.tells_old_x hW _ rfl (Try.isAgg4 _) HC.out) ?_; with_reducible rfl) | (refine Eq.trans (Kx.tells_old_x hW _ rfl (Try.isAgg3 _) HC.out) ?_; with_reducible rfl) | (refine Eq.trans (Kx.tells_old_x hW _ rfl (Try.isAgg2 _) HC.out) ?_; with_reducible rfl) | (refine Eq.trans (Kx.tells_load_x hW _ _ rfl _ inferInstance _ (Try.isAgg25 _) (Try.sizeOf25 _) _ (by first | exact Kx.whole (by rfl) | (simp <;> rfl)) (by rfl) rfl) ?_; with_reducible rfl) | (refine Eq.trans (Kx.tells_load_x hW _ _ rfl _ inferInstance _ (Try.isAgg28 _) (Try.sizeOf28 _) _ (by first | exact Kx.whole (by rfl) | (simp <;> rfl)) (by rfl) rfl) ?_; with_reducible rfl))
    case f11_454 => (go_simp; try with_reducible rfl)
    refine anyW_call (i := 12) (v := ?v12_455) (f := ?g12_455) (args := ?s12_455) (a' := ?a12_455) (by first | exact Kx.bears_x | assumption) rfl (by kernel_rfl) (by kernel_rfl) (by kernel_rfl) (fun _ _ _ h => h) (by kernel_rfl) ?c12_455 ?w12_455 ?y12_455 ?f12_455 ?r12_455
    case w12_455 => kernel_rfl
    case y12_455 => (intro W hW; go_simp; first | (refine ⟨?_, ?_⟩ <;> with_reducible rfl) | with_reducible rfl)
    case c12_455 => (intro W hW; refine Calls.mono (PSame_self ⟨_, _, _, _, ⟨_, _⟩⟩ _) ?_; rintro e w_ ⟨rfl, hb_⟩; refine ⟨?_, by first | exact hb_ | exact hb_ ▸ Below.refl _ _⟩; with_reducible rfl)
    case f12_455 => (go_simp; try with_reducible rfl)
    refine anyW_take (i := 13) (v := ?v13_456) (a' := ?a13_456) (by first | exact Kx.bears_x | assumption) rfl (by kernel_rfl) (by kernel_rfl) (by kernel_rfl) (fun _ _ _ h => h) (by kernel_rfl) ?w13_456 ?y13_456 ?f13_456 ?r13_456
    case w13_456 => kernel_rfl
    case y13_456 => (intro w hC; go_simp; try with_reducible rfl)
    case f13_456 => (go_simp; try with_reducible rfl)
    refine anyW_take (i := 14) (v := ?v14_457) (a' := ?a14_457) (by first | exact Kx.bears_x | assumption) rfl (by kernel_rfl) (by kernel_rfl) (by kernel_rfl) (fun _ _ _ h => h) (by kernel_rfl) ?w14_457 ?y14_457 ?f14_457 ?r14_457
    case w14_457 => kernel_rfl
    case y14_457 => (intro w hC; go_simp; try with_reducible rfl)
    case f14_457 => (go_simp; try with_reducible rfl)
    refine anyW_take (i := 15) (v := ?v15_458) (a' := ?a15_458) (by first | exact Kx.bears_x | assumption) rfl (by kernel_rfl) (by kernel_rfl) (by kernel_rfl) (fun _ _ _ h => h) (by kernel_rfl) ?w15_458 ?y15_458 ?f15_458 ?r15_458
    case w15_458 => kernel_rfl
    case y15_458 => (intro W hW; first | (refine Eq.trans (Kx.tells_load1_x hW _ _ rfl _ inferInstance (Try.isAgg4 _) rfl) ?_; with_reducible rfl) | (refine Eq.trans (Kx.tells_load1_x hW _ _ rfl _ inferInstance (Try.isAgg3 _) rfl) ?_; with_reducible rfl) | (refine Eq.trans (Kx.tells_load1_x hW _ _ rfl _ inferInstance (Try.isAgg2 _) rfl) ?_; with_reducible rfl) | (refine Eq.trans (Kx.tells_old_x hW _ rfl (Try.isAgg4 _) HC.out) ?_; with_reducible rfl) | (refine Eq.trans (Kx.tells_old_x hW _ rfl (Try.isAgg3 _) HC.out) ?_; with_reducible rfl) | (refine Eq.trans (Kx.tells_old_x hW _ rfl (Try.isAgg2 _) HC.out) ?_; with_reducible rfl) | (refine Eq.trans (Kx.tells_load_x hW _ _ rfl _ inferInstance _ (Try.isAgg25 _) (Try.sizeOf25 _) _ (by first | exact Kx.whole (by rfl) | (simp <;> rfl)) (by rfl) rfl) ?_; with_reducible rfl) | (refine Eq.trans (Kx.tells_load_x hW _ _ rfl _ inferInstance _ (Try.isAgg28 _) (Try.sizeOf28 _) _ (by first | exact Kx.whole (by rfl) | (simp <;> rfl)) (by rfl) rfl) ?_; with_reducible rfl))
    case f15_458 => (go_simp; try with_reducible rfl)
    refine anyW_take (i := 16) (v := ?v16_459) (a' := ?a16_459) (by first | exact Kx.bears_x | assumption) rfl (by kernel_rfl) (by kernel_rfl) (by kernel_rfl) (fun _ _ _ h => h) (by kernel_rfl) ?w16_459 ?y16_459 ?f16_459 ?r16_459
    case w16_459 => kernel_rfl
    case y16_459 => (intro W hW; first | (refine Eq.trans (Kx.tells_load1_x hW _ _ rfl _ inferInstance (Try.isAgg4 _) rfl) ?_; with_reducible rfl) | (refine Eq.trans (Kx.tells_load1_x hW _ _ rfl _ inferInstance (Try.isAgg3 _) rfl) ?_; with_reducible rfl) | (refine Eq.trans (Kx.tells_load1_x hW _ _ rfl _ inferInstance (Try.isAgg2 _) rfl) ?_; with_reducible rfl) | (refine Eq.trans (Kx.tells_old_x hW _ rfl (Try.isAgg4 _) HC.out) ?_; with_reducible rfl) | (refine Eq.trans (Kx.tells_old_x hW _ rfl (Try.isAgg3 _) HC.out) ?_; with_reducible rfl) | (refine Eq.trans (Kx.tells_old_x hW _ rfl (Try.isAgg2 _) HC.out) ?_; with_reducible rfl) | (refine Eq.trans (Kx.tells_load_x hW _ _ rfl _ inferInstance _ (Try.isAgg25 _) (Try.sizeOf25 _) _ (by first | exact Kx.whole (by rfl) | (simp <;> rfl)) (by rfl) rfl) ?_; with_reducible rfl) | (refine Eq.trans (Kx.tells_load_x hW _ _ rfl _ inferInstance _ (Try.isAgg28 _) (Try.sizeOf28 _) _ (by first | exact Kx.whole (by rfl) | (simp <;> rfl)) (by rfl) rfl) ?_; with_reducible rfl))
    case f16_459 => (go_simp; try with_reducible rfl)
    refine anyW_take (i := 17) (v := ?v17_460) (a' := ?a17_460) (by first | exact Kx.bears_x | assumption) rfl (by kernel_rfl) (by kernel_rfl) (by kernel_rfl) (fun _ _ _ h => h) (by kernel_rfl) ?w17_460 ?y17_460 ?f17_460 ?r17_460
    case w17_460 => kernel_rfl
    case y17_460 => (intro w hC; go_simp; try with_reducible rfl)
    case f17_460 => (go_simp; try with_reducible rfl)
    refine anyW_take (i := 18) (v := ?v18_461) (a' := ?a18_461) (by first | exact Kx.bears_x | assumption) rfl (by kernel_rfl) (by kernel_rfl) (by kernel_rfl) (fun _ _ _ h => h) (by kernel_rfl) ?w18_461 ?y18_461 ?f18_461 ?r18_461
    case w18_461 => kernel_rfl
    case y18_461 => (intro W hW; first | (refine Eq.trans (Kx.tells_load1_x hW _ _ rfl _ inferInstance (Try.isAgg4 _) rfl) ?_; with_reducible rfl) | (refine Eq.trans (Kx.tells_load1_x hW _ _ rfl _ inferInstance (Try.isAgg3 _) rfl) ?_; with_reducible rfl) | (refine Eq.trans (Kx.tells_load1_x hW _ _ rfl _ inferInstance (Try.isAgg2 _) rfl) ?_; with_reducible rfl) | (refine Eq.trans (Kx.tells_old_x hW _ rfl (Try.isAgg4 _) HC.out) ?_; with_reducible rfl) | (refine Eq.trans (Kx.tells_old_x hW _ rfl (Try.isAgg3 _) HC.out) ?_; with_reducible rfl) | (refine Eq.trans (Kx.tells_old_x hW _ rfl (Try.isAgg2 _) HC.out) ?_; with_reducible rfl) | (refine Eq.trans (Kx.tells_load_x hW _ _ rfl _ inferInstance _ (Try.isAgg25 _) (Try.sizeOf25 _) _ (by first | exact Kx.whole (by rfl) | (simp <;> rfl)) (by rfl) rfl) ?_; with_reducible rfl) | (refine Eq.trans (Kx.tells_load_x hW _ _ rfl _ inferInstance _ (Try.isAgg28 _) (Try.sizeOf28 _) _ (by first | exact Kx.whole (by rfl) | (simp <;> rfl)) (by rfl) rfl) ?_; with_reducible rfl))
    case f18_461 => (go_simp; try with_reducible rfl)
    refine anyW_call (i := 19) (v := ?v19_462) (f := ?g19_462) (args := ?s19_462) (a' := ?a19_462) (by first | exact Kx.bears_x | assumption) rfl (by kernel_rfl) (by kernel_rfl) (by kernel_rfl) (fun _ _ _ h => h) (by kernel_rfl) ?c19_462 ?w19_462 ?y19_462 ?f19_462 ?r19_462
    case w19_462 => kernel_rfl
    case y19_462 => (intro W hW; go_simp; first | (refine ⟨?_, ?_⟩ <;> with_reducible rfl) | with_reducible rfl)
    case c19_462 => (intro W hW; refine Calls.mono (HA2.out _) ?_; rintro e w_ ⟨rfl, hb_⟩; refine ⟨?_, by first | exact hb_ | exact hb_ ▸ Below.refl _ _⟩; with_reducible rfl)
    case f19_462 => (go_simp; try with_reducible rfl)
    refine anyW_take (i := 20) (v := ?v20_463) (a' := ?a20_463) (by first | exact Kx.bears_x | assumption) rfl (by kernel_rfl) (by kernel_rfl) (by kernel_rfl) (fun _ _ _ h => h) (by kernel_rfl) ?w20_463 ?y20_463 ?f20_463 ?r20_463
    case w20_463 => kernel_rfl
    case y20_463 => (intro W hW; first | (refine Eq.trans (Kx.tells_load1_x hW _ _ rfl _ inferInstance (Try.isAgg4 _) rfl) ?_; with_reducible rfl) | (refine Eq.trans (Kx.tells_load1_x hW _ _ rfl _ inferInstance (Try.isAgg3 _) rfl) ?_; with_reducible rfl) | (refine Eq.trans (Kx.tells_load1_x hW _ _ rfl _ inferInstance (Try.isAgg2 _) rfl) ?_; with_reducible rfl) | (refine Eq.trans (Kx.tells_old_x hW _ rfl (Try.isAgg4 _) HC.out) ?_; with_reducible rfl) | (refine Eq.trans (Kx.tells_old_x hW _ rfl (Try.isAgg3 _) HC.out) ?_; with_reducible rfl) | (refine Eq.trans (Kx.tells_old_x hW _ rfl (Try.isAgg2 _) HC.out) ?_; with_reducible rfl) | (refine Eq.trans (Kx.tells_load_x hW _ _ rfl _ inferInstance _ (Try.isAgg25 _) (Try.sizeOf25 _) _ (by first | exact Kx.whole (by rfl) | (simp <;> rfl)) (by rfl) rfl) ?_; with_reducible rfl) | (refine Eq.trans (Kx.tells_load_x hW _ _ rfl _ inferInstance _ (Try.isAgg28 _) (Try.sizeOf28 _) _ (by first | exact Kx.whole (by rfl) | (simp <;> rfl)) (by rfl) rfl) ?_; with_reducible rfl))
    case f20_463 => (go_simp; try with_reducible rfl)
    refine anyW_call (i := 21) (v := ?v21_464) (f := ?g21_464) (args := ?s21_464) (a' := ?a21_464) (by first | exact Kx.bears_x | assumption) rfl (by kernel_rfl) (by kernel_rfl) (by kernel_rfl) (fun _ _ _ h => h) (by kernel_rfl) ?c21_464 ?w21_464 ?y21_464 ?f21_464 ?r21_464
    case w21_464 => kernel_rfl
    case y21_464 => (intro W hW; go_simp; first | (refine ⟨?_, ?_⟩ <;> with_reducible rfl) | with_reducible rfl)
    case c21_464 => (intro W hW; refine Calls.mono (HS.out _) ?_; rintro e w_ ⟨rfl, hb_⟩; refine ⟨?_, by first | exact hb_ | exact hb_ ▸ Below.refl _ _⟩; with_reducible rfl)
    case f21_464 => (go_simp; try with_reducible rfl)
    refine anyW_take (i := 22) (v := ?v22_465) (a' := ?a22_465) (by first | exact Kx.bears_x | assumption) rfl (by kernel_rfl) (by kernel_rfl) (by kernel_rfl) (fun _ _ _ h => h) (by kernel_rfl) ?w22_465 ?y22_465 ?f22_465 ?r22_465
    case w22_465 => kernel_rfl
    case y22_465 => (intro w hC; go_simp; try with_reducible rfl)
    case f22_465 => (go_simp; try with_reducible rfl)
    refine anyW_take (i := 23) (v := ?v23_466) (a' := ?a23_466) (by first | exact Kx.bears_x | assumption) rfl (by kernel_rfl) (by kernel_rfl) (by kernel_rfl) (fun _ _ _ h => h) (by kernel_rfl) ?w23_466 ?y23_466 ?f23_466 ?r23_466
    case w23_466 => kernel_rfl
    case y23_466 => (intro w hC; go_simp; try with_reducible rfl)
    case f23_466 => (go_simp; try with_reducible rfl)
    refine anyW_done (by kernel_rfl) ?_
    clear HB
    intro w_ HB_
    have HB := Lib.hid HB_
    clear HB_
    go_wp2
    go_ret
    exact ⟨rfl, HB.out.below⟩
end Go.Proofs.Ytijbdkeefaaeeaa
