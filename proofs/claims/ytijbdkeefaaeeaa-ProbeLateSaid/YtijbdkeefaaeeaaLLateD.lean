/- ProbeLate, walked: some cases. -/
import Derived.Test.YtijbdkeefaaeeaaLLate0
namespace Go.Proofs.Ytijbdkeefaaeeaa
open Go.RowKit Go.Shelf Km Kx Kc

set_option maxRecDepth 100000 in
set_option maxHeartbeats 4000000 in
theorem late_down0 (nx : Int) (op : Bool) (nn sc r0 : Int) (e wt n nonce : Int) (w : World) (e0 : 0 ≤ e ∧ e ≤ 255) (w0 : 0 ≤ wt ∧ wt ≤ 255) (n0 : 0 ≤ n ∧ n ≤ 65535) (hz : nonce ≠ 0) :
    Calls Try.prog 8 #[.agg #[.int .i64 nx, .bool op, .int .i64 nn, .int .i64 sc, .bool false, .int .i64 r0], .int .u8 e, .int .u8 wt, .int .u16 n, .int .i64 nonce] w fun e w' => e = .returned (.bool true) ∧ Below w.heap.size w w' := by
  obtain ⟨e0, e1⟩ := e0
  obtain ⟨w0, w1⟩ := w0
  obtain ⟨n0, n1⟩ := n0
  have HB := Lib.hid (Bxs.start w)
  have v1 : IntKind.i64.wrap e = e := by rw [IntKind.wrap_i64]; omega
  have v2 : IntKind.i64.wrap (1 + e) = 1 + e := by rw [IntKind.wrap_i64]; omega
  have v3 : IntKind.i64.wrap wt = wt := by rw [IntKind.wrap_i64]; omega
  have v4 : IntKind.i64.wrap (1 + wt) = 1 + wt := by rw [IntKind.wrap_i64]; omega
  have v5 : IntKind.i64.wrap n = n := by rw [IntKind.wrap_i64]; omega
  have v6 : IntKind.i64.wrap (n + (1 + wt)) = n + (1 + wt) := by rw [IntKind.wrap_i64]; omega
  have HT1 : Hid (∀ W, Calls Try.prog 10 #[.agg #[.int .i64 n, .bool false, .int .i64 nn, .int .i64 sc, .bool false, .int .i64 r0], .agg (cf (mk (1 + e) (1 + wt) 2 2)).toArray, .int .i64 n, .int .i64 nonce] W fun e' w' => e' = .returned (.tuple #[.agg #[.int .i64 (Pm.bd (n + Pm.bd (1 + e))), .bool true, .int .i64 nonce, .int .i64 n, .bool false, .int .i64 r0], .bool true]) ∧ Below W.heap.size W w') := Lib.hid fun W => by
    have h := Tick_any ⟨n, false, nn, sc, ⟨false, r0⟩⟩ (mk (1 + e) (1 + wt) 2 2) n nonce W
    dsimp only [mk] at h
    rw [late_first ⟨false, r0⟩ nn sc (1 + e) (1 + wt) n nonce n0 n1] at h
    exact h
  obtain ⟨q, b, hq, hs, ho⟩ := late_second ⟨false, r0⟩ (Pm.bd (n + Pm.bd (1 + e))) (1 + e) (1 + wt) n nonce 0 n0 n1 (by omega) (by omega)
  have HT2 : Hid (∀ W, Calls Try.prog 10 #[.agg #[.int .i64 (Pm.bd (n + Pm.bd (1 + e))), .bool true, .int .i64 nonce, .int .i64 n, .bool false, .int .i64 r0], .agg (cf (mk (1 + e) (1 + wt) 2 2)).toArray, .int .i64 (n + (1 + wt)), .int .i64 0] W fun e' w' => e' = .returned (.tuple #[.agg (pl q).toArray, .bool b]) ∧ Below W.heap.size W w') := Lib.hid fun W => by
    have h := Tick_any ⟨Pm.bd (n + Pm.bd (1 + e)), true, nonce, n, ⟨false, r0⟩⟩ (mk (1 + e) (1 + wt) 2 2) (n + (1 + wt)) 0 W
    dsimp only [mk] at h
    rw [hq] at h
    exact h
  have HA1 : Hid (∀ W, Calls Try.prog 13 #[.agg (pl q).toArray, .agg (cf (mk (1 + e) (1 + wt) 2 2)).toArray, .int .i64 nonce] W fun e' w' => e' = .returned (.agg (pl q).toArray) ∧ Below W.heap.size W w') := Lib.hid fun W => by
    have h := Alive_any q (mk (1 + e) (1 + wt) 2 2) nonce W
    rw [late_third (o := 0) (fun k => (ho k).1) hz] at h
    exact h
  have HA2 : Hid (∀ W, Calls Try.prog 13 #[.agg #[.int .i64 n, .bool false, .int .i64 nn, .int .i64 sc, .bool false, .int .i64 r0], .agg (cf (mk (1 + e) (1 + wt) 2 2)).toArray, .int .i64 nn] W fun e' w' => e' = .returned (.agg #[.int .i64 n, .bool false, .int .i64 nn, .int .i64 sc, .bool false, .int .i64 r0]) ∧ Below W.heap.size W w') := Lib.hid fun W => by
    have h := Alive_any ⟨n, false, nn, sc, ⟨false, r0⟩⟩ (mk (1 + e) (1 + wt) 2 2) nn W
    rw [Pm.alive_shut rfl] at h
    exact h
  have HS : Hid (∀ W, Calls Try.prog 12 #[.agg #[.int .i64 n, .bool false, .int .i64 nn, .int .i64 sc, .bool false, .int .i64 r0], .agg #[.int .i64 n, .bool false, .int .i64 nn, .int .i64 sc, .bool false, .int .i64 r0]] W fun e' w' => e' = .returned (.bool true) ∧ Below W.heap.size W w') := Lib.hid fun W => PSame_self ⟨n, false, nn, sc, ⟨false, r0⟩⟩ W
  have HM := Lib.hid (mk_built (1 + e) (1 + wt) 2 2)
  dsimp only [cf, mk] at HT1 HT2 HA1 HA2
  clear hq
  obtain ⟨qx, qo, qn, qs, ⟨qu, qr⟩⟩ := q
  have d1 : (nonce == 0) = false := by simp [hz]
  have hob : b = true ∨ (b = false ∧ qo = false) := by cases qo with
    | true => exact .inl (ho rfl).2
    | false => cases b <;> simp
  generalize Pm.bd (n + Pm.bd (1 + e)) = X at *
  have HO := Lib.hid hob
  clear hs ho hob hz
  go_enter Try.func8, Try.ntmps8
  go_wp2_with (first | ((with_reducible refine Kx.build_gate ?_); refine Km.wpList_build rfl 28 _ rfl #[(6, .int .i64 (1 + e)), (7, .int .i64 (1 + wt)), (8, .int .i64 2), (9, .int .i64 2)] rfl (cf (mk (1 + e) (1 + wt) 2 2)).toArray (HM.out) ?_; refine Kx.framed ?_ (by simp only [Act.put, List.setIfInBounds_toArray, List.set_cons_succ, List.set_cons_zero] <;> rfl)) | (go_at_call 9; refine Calls.mono (head_any _) ?_; rintro e w_ ⟨rfl, hb_⟩; replace HB := Lib.hid (HB.out.call hb_); clear hb_) | (go_at_call 10; with_reducible refine Kx.args_gate #[_, _, .int .i64 n, _] ?_; refine Calls.mono (HT1.out _) ?_; rintro e w_ ⟨rfl, hb_⟩; replace HB := Lib.hid (HB.out.call hb_); clear hb_) | (go_at_call 10; refine Calls.mono (HT2.out _) ?_; rintro e w_ ⟨rfl, hb_⟩; replace HB := Lib.hid (HB.out.call hb_); clear hb_) | (go_at_call 13; refine Calls.mono (HA1.out _) ?_; rintro e w_ ⟨rfl, hb_⟩; replace HB := Lib.hid (HB.out.call hb_); clear hb_) | (first | ((with_reducible refine Kx.absorb HB ?_); clear HB; intro w_ HB) | ((with_reducible refine Kx.box_gate ?_); first | (refine Kx.wpList_boxa_x HB rfl _ _ rfl _ rfl ?_; clear HB; intro b_ w_ HB; refine Kx.framed ?_ (by simp only [Act.put, List.setIfInBounds_toArray, List.set_cons_succ, List.set_cons_zero] <;> rfl)) | (refine Kx.wpList_boxt_x HB rfl _ _ rfl _ rfl rfl ?_; clear HB; intro b_ w_ HB; refine Kx.framed ?_ (by simp only [Act.put, List.setIfInBounds_toArray, List.set_cons_succ, List.set_cons_zero] <;> rfl)) | (refine Kx.wpList_box1_x HB rfl _ _ rfl _ rfl rfl ?_; clear HB; intro b_ w_ HB; refine Kx.framed ?_ (by simp only [Act.put, List.setIfInBounds_toArray, List.set_cons_succ, List.set_cons_zero] <;> rfl))) | ((with_reducible refine Kx.alloc_gate ?_); first | (refine Kx.wpList_alloca_x HB rfl _ rfl _ (Try.zeroValue25 _) ?_; clear HB; intro b_ w_ HB; refine Kx.framed ?_ (by simp only [Act.put, List.setIfInBounds_toArray, List.set_cons_succ, List.set_cons_zero] <;> rfl)) | (refine Kx.wpList_alloca_x HB rfl _ rfl _ (Try.zeroValue28 _) ?_; clear HB; intro b_ w_ HB; refine Kx.framed ?_ (by simp only [Act.put, List.setIfInBounds_toArray, List.set_cons_succ, List.set_cons_zero] <;> rfl)) | (refine Kx.wpList_alloc1_x HB rfl _ rfl _ (Try.zeroValue4 _) rfl ?_; clear HB; intro b_ w_ HB; refine Kx.framed ?_ (by simp only [Act.put, List.setIfInBounds_toArray, List.set_cons_succ, List.set_cons_zero] <;> rfl)) | (refine Kx.wpList_alloc1_x HB rfl _ rfl _ (Try.zeroValue3 _) rfl ?_; clear HB; intro b_ w_ HB; refine Kx.framed ?_ (by simp only [Act.put, List.setIfInBounds_toArray, List.set_cons_succ, List.set_cons_zero] <;> rfl)) | (refine Kx.wpList_alloc1_x HB rfl _ rfl _ (Try.zeroValue2 _) rfl ?_; clear HB; intro b_ w_ HB; refine Kx.framed ?_ (by simp only [Act.put, List.setIfInBounds_toArray, List.set_cons_succ, List.set_cons_zero] <;> rfl))) | ((with_reducible refine Kx.loads_gate ?_); first | (refine Kx.wpList_load1_x HB rfl _ _ rfl _ rfl _ (Try.isAgg4 _) _ rfl (Kx.framed ?_ (by simp only [Act.put, List.setIfInBounds_toArray, List.set_cons_succ, List.set_cons_zero] <;> rfl))) | (refine Kx.wpList_load1_x HB rfl _ _ rfl _ rfl _ (Try.isAgg3 _) _ rfl (Kx.framed ?_ (by simp only [Act.put, List.setIfInBounds_toArray, List.set_cons_succ, List.set_cons_zero] <;> rfl))) | (refine Kx.wpList_load1_x HB rfl _ _ rfl _ rfl _ (Try.isAgg2 _) _ rfl (Kx.framed ?_ (by simp only [Act.put, List.setIfInBounds_toArray, List.set_cons_succ, List.set_cons_zero] <;> rfl))) | (refine Kx.wpList_load_x HB rfl _ _ rfl _ rfl _ _ (Try.isAgg25 _) (Try.sizeOf25 _) _ (by first | exact Kx.whole (by rfl) | (simp <;> rfl)) (by rfl) (Kx.framed ?_ (by simp only [Act.put, List.setIfInBounds_toArray, List.set_cons_succ, List.set_cons_zero] <;> rfl))) | (refine Kx.wpList_load_x HB rfl _ _ rfl _ rfl _ _ (Try.isAgg28 _) (Try.sizeOf28 _) _ (by first | exact Kx.whole (by rfl) | (simp <;> rfl)) (by rfl) (Kx.framed ?_ (by simp only [Act.put, List.setIfInBounds_toArray, List.set_cons_succ, List.set_cons_zero] <;> rfl))) | (refine Kx.wpList_old_x HB rfl _ _ rfl _ rfl (Try.isAgg4 _) _ HC.out (Kx.framed ?_ (by simp only [Act.put, List.setIfInBounds_toArray, List.set_cons_succ, List.set_cons_zero] <;> rfl))) | (refine Kx.wpList_old_x HB rfl _ _ rfl _ rfl (Try.isAgg3 _) _ HC.out (Kx.framed ?_ (by simp only [Act.put, List.setIfInBounds_toArray, List.set_cons_succ, List.set_cons_zero] <;> rfl))) | (refine Kx.wpList_old_x HB rfl _ _ rfl _ rfl (Try.isAgg2 _) _ HC.out (Kx.framed ?_ (by simp only [Act.put, List.setIfInBounds_toArray, List.set_cons_succ, List.set_cons_zero] <;> rfl)))) | ((with_reducible refine Kx.loadg_gate ?_); first | (refine Kx.wpList_loadg_x HB _ _ rfl _ rfl _ (Try.isAgg4 _) _ rfl rfl (Kx.framed ?_ (by simp only [Act.put, List.setIfInBounds_toArray, List.set_cons_succ, List.set_cons_zero] <;> rfl))) | (refine Kx.wpList_loadg_x HB _ _ rfl _ rfl _ (Try.isAgg3 _) _ rfl rfl (Kx.framed ?_ (by simp only [Act.put, List.setIfInBounds_toArray, List.set_cons_succ, List.set_cons_zero] <;> rfl))) | (refine Kx.wpList_loadg_x HB _ _ rfl _ rfl _ (Try.isAgg2 _) _ rfl rfl (Kx.framed ?_ (by simp only [Act.put, List.setIfInBounds_toArray, List.set_cons_succ, List.set_cons_zero] <;> rfl))) | (refine Kx.wpList_loadga_x HB _ _ rfl _ rfl _ _ (Try.isAgg25 _) (Try.sizeOf25 _) _ (by first | exact Kx.whole (by rfl) | (simp <;> rfl)) (by rfl) rfl (Kx.framed ?_ (by simp only [Act.put, List.setIfInBounds_toArray, List.set_cons_succ, List.set_cons_zero] <;> rfl))) | (refine Kx.wpList_loadga_x HB _ _ rfl _ rfl _ _ (Try.isAgg28 _) (Try.sizeOf28 _) _ (by first | exact Kx.whole (by rfl) | (simp <;> rfl)) (by rfl) rfl (Kx.framed ?_ (by simp only [Act.put, List.setIfInBounds_toArray, List.set_cons_succ, List.set_cons_zero] <;> rfl))) | (refine Kx.wpList_oldg_x HB _ _ rfl _ rfl (Try.isAgg4 _) _ HC.out rfl (Kx.framed ?_ (by simp only [Act.put, List.setIfInBounds_toArray, List.set_cons_succ, List.set_cons_zero] <;> rfl))) | (refine Kx.wpList_oldg_x HB _ _ rfl _ rfl (Try.isAgg3 _) _ HC.out rfl (Kx.framed ?_ (by simp only [Act.put, List.setIfInBounds_toArray, List.set_cons_succ, List.set_cons_zero] <;> rfl))) | (refine Kx.wpList_oldg_x HB _ _ rfl _ rfl (Try.isAgg2 _) _ HC.out rfl (Kx.framed ?_ (by simp only [Act.put, List.setIfInBounds_toArray, List.set_cons_succ, List.set_cons_zero] <;> rfl)))) | ((with_reducible refine Kx.store_gate ?_); first | (refine Kx.wpList_storewa_x HB rfl rfl _ _ _ rfl _ rfl _ rfl _ (by rfl) (by simp <;> rfl) (by rfl) ?_; clear HB; intro w_ HB) | (refine Kx.wpList_storea_x HB rfl rfl _ _ _ rfl _ rfl _ rfl _ _ (by simp [Kx.splice] <;> rfl) (by simp) (by simp <;> rfl) (by rfl) ?_; clear HB; intro w_ HB) | (refine Kx.wpList_storec_x HB rfl rfl _ _ _ rfl _ rfl rfl _ _ (by simp <;> rfl) (by simp) (by simp <;> rfl) ?_; clear HB; intro w_ HB) | (refine Kx.wpList_storet_x HB rfl rfl _ _ _ rfl _ rfl _ rfl rfl _ _ (by simp <;> rfl) (by simp) (by simp <;> rfl) ?_; clear HB; intro w_ HB) | (refine Kx.wpList_store1_x HB rfl rfl _ _ _ rfl _ rfl _ rfl rfl _ _ (by simp <;> rfl) (by simp) (by simp <;> rfl) ?_; clear HB; intro w_ HB))))
  rcases HO.out with rfl | ⟨rfl, rfl⟩
  · clear HO
    refine Kx.region_x HB (fun i => false) (by kernel_rfl) ?_
    refine anyW_take (i := 0) (v := ?v0_179) (a' := ?a0_179) (by first | exact Kx.bears_x | assumption) rfl (by kernel_rfl) (by kernel_rfl) (by kernel_rfl) (fun _ _ _ h => h) (by kernel_rfl) ?w0_179 ?y0_179 ?f0_179 ?r0_179
    case w0_179 => kernel_rfl
    case y0_179 => (intro w hC; go_simp; try with_reducible rfl)
    case f0_179 => (go_simp; try with_reducible rfl)
    refine anyW_take (i := 1) (v := ?v1_180) (a' := ?a1_180) (by first | exact Kx.bears_x | assumption) rfl (by kernel_rfl) (by kernel_rfl) (by kernel_rfl) (fun _ _ _ h => h) (by kernel_rfl) ?w1_180 ?y1_180 ?f1_180 ?r1_180
    case w1_180 => kernel_rfl
    case y1_180 => (intro w hC; go_simp; try with_reducible rfl)
    case f1_180 => (go_simp; try with_reducible rfl)
    refine anyW_take (i := 2) (v := ?v2_181) (a' := ?a2_181) (by first | exact Kx.bears_x | assumption) rfl (by kernel_rfl) (by kernel_rfl) (by kernel_rfl) (fun _ _ _ h => h) (by kernel_rfl) ?w2_181 ?y2_181 ?f2_181 ?r2_181
    case w2_181 => kernel_rfl
    case y2_181 => (intro w hC; go_simp; try with_reducible rfl)
    case f2_181 => (go_simp; try with_reducible rfl)
    refine anyW_take (i := 3) (v := ?v3_182) (a' := ?a3_182) (by first | exact Kx.bears_x | assumption) rfl (by kernel_rfl) (by kernel_rfl) (by kernel_rfl) (fun _ _ _ h => h) (by kernel_rfl) ?w3_182 ?y3_182 ?f3_182 ?r3_182
    case w3_182 => kernel_rfl
    case y3_182 => (intro w hC; go_simp; try with_reducible rfl)
    case f3_182 => (go_simp; try with_reducible rfl)
    refine anyW_skip (i := 4) (a' := ?a4_183) (by first | exact Kx.bears_x | assumption) rfl (by kernel_rfl) (by kernel_rfl) (by kernel_rfl) (fun _ _ _ h => h) (by kernel_rfl) (by kernel_rfl) ?f4_183 ?r4_183
    case f4_183 => (go_simp; try with_reducible rfl)
    refine anyW_skip (i := 5) (a' := ?a5_184) (by first | exact Kx.bears_x | assumption) rfl (by kernel_rfl) (by kernel_rfl) (by kernel_rfl) (fun _ _ _ h => h) (by kernel_rfl) (by kernel_rfl) ?f5_184 ?r5_184
    case f5_184 => (go_simp; try with_reducible rfl)
    refine anyW_skip (i := 6) (a' := ?a6_185) (by first | exact Kx.bears_x | assumption) rfl (by kernel_rfl) (by kernel_rfl) (by kernel_rfl) (fun _ _ _ h => h) (by kernel_rfl) (by kernel_rfl) ?f6_185 ?r6_185
    case f6_185 => (go_simp; try with_reducible rfl)
    refine anyW_take (i := 7) (v := ?v7_186) (a' := ?a7_186) (by first | exact Kx.bears_x | assumption) rfl (by kernel_rfl) (by kernel_rfl) (by kernel_rfl) (fun _ _ _ h => h) (by kernel_rfl) ?w7_186 ?y7_186 ?f7_186 ?r7_186
    case w7_186 => kernel_rfl
    case y7_186 => (intro w hC; go_simp; try with_reducible rfl)
    case f7_186 => (go_simp; try with_reducible rfl)
    refine anyW_take (i := 8) (v := ?v8_187) (a' := ?a8_187) (by first | exact Kx.bears_x | assumption) rfl (by kernel_rfl) (by kernel_rfl) (by kernel_rfl) (fun _ _ _ h => h) (by kernel_rfl) ?w8_187 ?y8_187 ?f8_187 ?r8_187
    case w8_187 => kernel_rfl
    case y8_187 => (intro w hC; go_simp; try with_reducible rfl)
    case f8_187 => (go_simp; try with_reducible rfl)
    refine anyW_take (i := 9) (v := ?v9_188) (a' := ?a9_188) (by first | exact Kx.bears_x | assumption) rfl (by kernel_rfl) (by kernel_rfl) (by kernel_rfl) (fun _ _ _ h => h) (by kernel_rfl) ?w9_188 ?y9_188 ?f9_188 ?r9_188
    case w9_188 => kernel_rfl
    case y9_188 => (intro w hC; go_simp; try with_reducible rfl)
    case f9_188 => (go_simp; try with_reducible rfl)
    refine anyW_take (i := 10) (v := ?v10_189) (a' := ?a10_189) (by first | exact Kx.bears_x | assumption) rfl (by kernel_rfl) (by kernel_rfl) (by kernel_rfl) (fun _ _ _ h => h) (by kernel_rfl) ?w10_189 ?y10_189 ?f10_189 ?r10_189
    case w10_189 => kernel_rfl
    case y10_189 => (intro W hW; first | (refine Eq.trans (Kx.tells_load1_x hW _ _ rfl _ inferInstance (Try.isAgg4 _) rfl) ?_; with_reducible rfl) | (refine Eq.trans (Kx.tells_load1_x hW _ _ rfl _ inferInstance (Try.isAgg3 _) rfl) ?_; with_reducible rfl) | (refine Eq.trans (Kx.tells_load1_x hW _ _ rfl _ inferInstance (Try.isAgg2 _) rfl) ?_; with_reducible rfl) | (refine Eq.trans (Kx.tells_old_x hW _ rfl (Try.isAgg4 _) HC.out) ?_; with_reducible rfl) | (refine Eq.trans (Kx.tells_old_x hW _ rfl (Try.isAgg3 _) HC.out) ?_; with_reducible rfl) | (refine Eq.trans (Kx.tells_old_x hW _ rfl (Try.isAgg2 _) HC.out) ?_; with_reducible rfl) | (refine Eq.trans (Kx.tells_load_x hW _ _ rfl _ inferInstance _ (Try.isAgg25 _) (Try.sizeOf25 _) _ (by first | exact Kx.whole (by rfl) | (simp <;> rfl)) (by rfl) rfl) ?_; with_reducible rfl) | (refine Eq.trans (Kx.tells_load_x hW _ _ rfl _ inferInstance _ (Try.isAgg28 _) (Try.sizeOf28 _) _ (by first | exact Kx.whole (by rfl) | (simp <;> rfl)) (by rfl) rfl) ?_; with_reducible rfl))
    case f10_189 => (go_simp; try with_reducible rfl)
    refine anyW_take (i := 11) (v := ?v11_190) (a' := ?a11_190) (by first | exact Kx.bears_x | assumption) rfl (by kernel_rfl) (by kernel_rfl) (by kernel_rfl) (fun _ _ _ h => h) (by kernel_rfl) ?w11_190 ?y11_190 ?f11_190 ?r11_190
    case w11_190 => kernel_rfl
    case y11_190 => (intro W hW; first | (refine Eq.trans (Kx.tells_load1_x hW _ _ rfl _ inferInstance (Try.isAgg4 _) rfl) ?_; with_reducible rfl) | (refine Eq.trans (Kx.tells_load1_x hW _ _ rfl _ inferInstance (Try.isAgg3 _) rfl) ?_; with_reducible rfl) | (refine Eq.trans (Kx.tells_load1_x hW _ _ rfl _ inferInstance (Try.isAgg2 _) rfl) ?_; with_reducible rfl) | (refine Eq.trans (Kx.tells_old_x hW _ rfl (Try.isAgg4 _) HC.out) ?_; with_reducible rfl) | (refine Eq.trans (Kx.tells_old_x hW _ rfl (Try.isAgg3 _) HC.out) ?_; with_reducible rfl) | (refine Eq.trans (Kx.tells_old_x hW _ rfl (Try.isAgg2 _) HC.out) ?_; with_reducible rfl) | (refine Eq.trans (Kx.tells_load_x hW _ _ rfl _ inferInstance _ (Try.isAgg25 _) (Try.sizeOf25 _) _ (by first | exact Kx.whole (by rfl) | (simp <;> rfl)) (by rfl) rfl) ?_; with_reducible rfl) | (refine Eq.trans (Kx.tells_load_x hW _ _ rfl _ inferInstance _ (Try.isAgg28 _) (Try.sizeOf28 _) _ (by first | exact Kx.whole (by rfl) | (simp <;> rfl)) (by rfl) rfl) ?_; with_reducible rfl))
    case f11_190 => (go_simp; try with_reducible rfl)
    refine anyW_call (i := 12) (v := ?v12_191) (f := ?g12_191) (args := ?s12_191) (a' := ?a12_191) (by first | exact Kx.bears_x | assumption) rfl (by kernel_rfl) (by kernel_rfl) (by kernel_rfl) (fun _ _ _ h => h) (by kernel_rfl) ?c12_191 ?w12_191 ?y12_191 ?f12_191 ?r12_191
    case w12_191 => kernel_rfl
    case y12_191 => (intro W hW; go_simp; first | (refine ⟨?_, ?_⟩ <;> with_reducible rfl) | with_reducible rfl)
    case c12_191 => (intro W hW; refine Calls.mono (PSame_self ⟨_, _, _, _, ⟨_, _⟩⟩ _) ?_; rintro e w_ ⟨rfl, hb_⟩; refine ⟨?_, by first | exact hb_ | exact hb_ ▸ Below.refl _ _⟩; with_reducible rfl)
    case f12_191 => (go_simp; try with_reducible rfl)
    refine anyW_take (i := 13) (v := ?v13_192) (a' := ?a13_192) (by first | exact Kx.bears_x | assumption) rfl (by kernel_rfl) (by kernel_rfl) (by kernel_rfl) (fun _ _ _ h => h) (by kernel_rfl) ?w13_192 ?y13_192 ?f13_192 ?r13_192
    case w13_192 => kernel_rfl
    case y13_192 => (intro w hC; go_simp; try with_reducible rfl)
    case f13_192 => (go_simp; try with_reducible rfl)
    refine anyW_take (i := 14) (v := ?v14_193) (a' := ?a14_193) (by first | exact Kx.bears_x | assumption) rfl (by kernel_rfl) (by kernel_rfl) (by kernel_rfl) (fun _ _ _ h => h) (by kernel_rfl) ?w14_193 ?y14_193 ?f14_193 ?r14_193
    case w14_193 => kernel_rfl
    case y14_193 => (intro w hC; go_simp; try with_reducible rfl)
    case f14_193 => (go_simp; try with_reducible rfl)
    refine anyW_take (i := 15) (v := ?v15_194) (a' := ?a15_194) (by first | exact Kx.bears_x | assumption) rfl (by kernel_rfl) (by kernel_rfl) (by kernel_rfl) (fun _ _ _ h => h) (by kernel_rfl) ?w15_194 ?y15_194 ?f15_194 ?r15_194
    case w15_194 => kernel_rfl
    case y15_194 => (intro W hW; first | (refine Eq.trans (Kx.tells_load1_x hW _ _ rfl _ inferInstance (Try.isAgg4 _) rfl) ?_; with_reducible rfl) | (refine Eq.trans (Kx.tells_load1_x hW _ _ rfl _ inferInstance (Try.isAgg3 _) rfl) ?_; with_reducible rfl) | (refine Eq.trans (Kx.tells_load1_x hW _ _ rfl _ inferInstance (Try.isAgg2 _) rfl) ?_; with_reducible rfl) | (refine Eq.trans (Kx.tells_old_x hW _ rfl (Try.isAgg4 _) HC.out) ?_; with_reducible rfl) | (refine Eq.trans (Kx.tells_old_x hW _ rfl (Try.isAgg3 _) HC.out) ?_; with_reducible rfl) | (refine Eq.trans (Kx.tells_old_x hW _ rfl (Try.isAgg2 _) HC.out) ?_; with_reducible rfl) | (refine Eq.trans (Kx.tells_load_x hW _ _ rfl _ inferInstance _ (Try.isAgg25 _) (Try.sizeOf25 _) _ (by first | exact Kx.whole (by rfl) | (simp <;> rfl)) (by rfl) rfl) ?_; with_reducible rfl) | (refine Eq.trans (Kx.tells_load_x hW _ _ rfl _ inferInstance _ (Try.isAgg28 _) (Try.sizeOf28 _) _ (by first | exact Kx.whole (by rfl) | (simp <;> rfl)) (by rfl) rfl) ?_; with_reducible rfl))
    case f15_194 => (go_simp; try with_reducible rfl)
    refine anyW_take (i := 16) (v := ?v16_195) (a' := ?a16_195) (by first | exact Kx.bears_x | assumption) rfl (by kernel_rfl) (by kernel_rfl) (by kernel_rfl) (fun _ _ _ h => h) (by kernel_rfl) ?w16_195 ?y16_195 ?f16_195 ?r16_195
    case w16_195 => kernel_rfl
    case y16_195 => (intro W hW; first | (refine Eq.trans (Kx.tells_load1_x hW _ _ rfl _ inferInstance (Try.isAgg4 _) rfl) ?_; with_reducible rfl) | (refine Eq.trans (Kx.tells_load1_x hW _ _ rfl _ inferInstance (Try.isAgg3 _) rfl) ?_; with_reducible rfl) | (refine Eq.trans (Kx.tells_load1_x hW _ _ rfl _ inferInstance (Try.isAgg2 _) rfl) ?_; with_reducible rfl) | (refine Eq.trans (Kx.tells_old_x hW _ rfl (Try.isAgg4 _) HC.out) ?_; with_reducible rfl) | (refine Eq.trans (Kx.tells_old_x hW _ rfl (Try.isAgg3 _) HC.out) ?_; with_reducible rfl) | (refine Eq.trans (Kx.tells_old_x hW _ rfl (Try.isAgg2 _) HC.out) ?_; with_reducible rfl) | (refine Eq.trans (Kx.tells_load_x hW _ _ rfl _ inferInstance _ (Try.isAgg25 _) (Try.sizeOf25 _) _ (by first | exact Kx.whole (by rfl) | (simp <;> rfl)) (by rfl) rfl) ?_; with_reducible rfl) | (refine Eq.trans (Kx.tells_load_x hW _ _ rfl _ inferInstance _ (Try.isAgg28 _) (Try.sizeOf28 _) _ (by first | exact Kx.whole (by rfl) | (simp <;> rfl)) (by rfl) rfl) ?_; with_reducible rfl))
    case f16_195 => (go_simp; try with_reducible rfl)
    refine anyW_take (i := 17) (v := ?v17_196) (a' := ?a17_196) (by first | exact Kx.bears_x | assumption) rfl (by kernel_rfl) (by kernel_rfl) (by kernel_rfl) (fun _ _ _ h => h) (by kernel_rfl) ?w17_196 ?y17_196 ?f17_196 ?r17_196
    case w17_196 => kernel_rfl
    case y17_196 => (intro w hC; go_simp; try with_reducible rfl)
    case f17_196 => (go_simp; try with_reducible rfl)
    refine anyW_take (i := 18) (v := ?v18_197) (a' := ?a18_197) (by first | exact Kx.bears_x | assumption) rfl (by kernel_rfl) (by kernel_rfl) (by kernel_rfl) (fun _ _ _ h => h) (by kernel_rfl) ?w18_197 ?y18_197 ?f18_197 ?r18_197
    case w18_197 => kernel_rfl
    case y18_197 => (intro W hW; first | (refine Eq.trans (Kx.tells_load1_x hW _ _ rfl _ inferInstance (Try.isAgg4 _) rfl) ?_; with_reducible rfl) | (refine Eq.trans (Kx.tells_load1_x hW _ _ rfl _ inferInstance (Try.isAgg3 _) rfl) ?_; with_reducible rfl) | (refine Eq.trans (Kx.tells_load1_x hW _ _ rfl _ inferInstance (Try.isAgg2 _) rfl) ?_; with_reducible rfl) | (refine Eq.trans (Kx.tells_old_x hW _ rfl (Try.isAgg4 _) HC.out) ?_; with_reducible rfl) | (refine Eq.trans (Kx.tells_old_x hW _ rfl (Try.isAgg3 _) HC.out) ?_; with_reducible rfl) | (refine Eq.trans (Kx.tells_old_x hW _ rfl (Try.isAgg2 _) HC.out) ?_; with_reducible rfl) | (refine Eq.trans (Kx.tells_load_x hW _ _ rfl _ inferInstance _ (Try.isAgg25 _) (Try.sizeOf25 _) _ (by first | exact Kx.whole (by rfl) | (simp <;> rfl)) (by rfl) rfl) ?_; with_reducible rfl) | (refine Eq.trans (Kx.tells_load_x hW _ _ rfl _ inferInstance _ (Try.isAgg28 _) (Try.sizeOf28 _) _ (by first | exact Kx.whole (by rfl) | (simp <;> rfl)) (by rfl) rfl) ?_; with_reducible rfl))
    case f18_197 => (go_simp; try with_reducible rfl)
    refine anyW_call (i := 19) (v := ?v19_198) (f := ?g19_198) (args := ?s19_198) (a' := ?a19_198) (by first | exact Kx.bears_x | assumption) rfl (by kernel_rfl) (by kernel_rfl) (by kernel_rfl) (fun _ _ _ h => h) (by kernel_rfl) ?c19_198 ?w19_198 ?y19_198 ?f19_198 ?r19_198
    case w19_198 => kernel_rfl
    case y19_198 => (intro W hW; go_simp; first | (refine ⟨?_, ?_⟩ <;> with_reducible rfl) | with_reducible rfl)
    case c19_198 => (intro W hW; refine Calls.mono (HA2.out _) ?_; rintro e w_ ⟨rfl, hb_⟩; refine ⟨?_, by first | exact hb_ | exact hb_ ▸ Below.refl _ _⟩; with_reducible rfl)
    case f19_198 => (go_simp; try with_reducible rfl)
    refine anyW_take (i := 20) (v := ?v20_199) (a' := ?a20_199) (by first | exact Kx.bears_x | assumption) rfl (by kernel_rfl) (by kernel_rfl) (by kernel_rfl) (fun _ _ _ h => h) (by kernel_rfl) ?w20_199 ?y20_199 ?f20_199 ?r20_199
    case w20_199 => kernel_rfl
    case y20_199 => (intro W hW; first | (refine Eq.trans (Kx.tells_load1_x hW _ _ rfl _ inferInstance (Try.isAgg4 _) rfl) ?_; with_reducible rfl) | (refine Eq.trans (Kx.tells_load1_x hW _ _ rfl _ inferInstance (Try.isAgg3 _) rfl) ?_; with_reducible rfl) | (refine Eq.trans (Kx.tells_load1_x hW _ _ rfl _ inferInstance (Try.isAgg2 _) rfl) ?_; with_reducible rfl) | (refine Eq.trans (Kx.tells_old_x hW _ rfl (Try.isAgg4 _) HC.out) ?_; with_reducible rfl) | (refine Eq.trans (Kx.tells_old_x hW _ rfl (Try.isAgg3 _) HC.out) ?_; with_reducible rfl) | (refine Eq.trans (Kx.tells_old_x hW _ rfl (Try.isAgg2 _) HC.out) ?_; with_reducible rfl) | (refine Eq.trans (Kx.tells_load_x hW _ _ rfl _ inferInstance _ (Try.isAgg25 _) (Try.sizeOf25 _) _ (by first | exact Kx.whole (by rfl) | (simp <;> rfl)) (by rfl) rfl) ?_; with_reducible rfl) | (refine Eq.trans (Kx.tells_load_x hW _ _ rfl _ inferInstance _ (Try.isAgg28 _) (Try.sizeOf28 _) _ (by first | exact Kx.whole (by rfl) | (simp <;> rfl)) (by rfl) rfl) ?_; with_reducible rfl))
    case f20_199 => (go_simp; try with_reducible rfl)
    refine anyW_call (i := 21) (v := ?v21_200) (f := ?g21_200) (args := ?s21_200) (a' := ?a21_200) (by first | exact Kx.bears_x | assumption) rfl (by kernel_rfl) (by kernel_rfl) (by kernel_rfl) (fun _ _ _ h => h) (by kernel_rfl) ?c21_200 ?w21_200 ?y21_200 ?f21_200 ?r21_200
    case w21_200 => kernel_rfl
    case y21_200 => (intro W hW; go_simp; first | (refine ⟨?_, ?_⟩ <;> with_reducible rfl) | with_reducible rfl)
    case c21_200 => (intro W hW; refine Calls.mono (HS.out _) ?_; rintro e w_ ⟨rfl, hb_⟩; refine ⟨?_, by first | exact hb_ | exact hb_ ▸ Below.refl _ _⟩; with_reducible rfl)
    case f21_200 => (go_simp; try with_reducible rfl)
    refine anyW_take (i := 22) (v := ?v22_201) (a' := ?a22_201) (by first | exact Kx.bears_x | assumption) rfl (by kernel_rfl) (by kernel_rfl) (by kernel_rfl) (fun _ _ _ h => h) (by kernel_rfl) ?w22_201 ?y22_201 ?f22_201 ?r22_201
    case w22_201 => kernel_rfl
    case y22_201 => (intro w hC; go_simp; try with_reducible rfl)
    case f22_201 => (go_simp; try with_reducible rfl)
    refine anyW_take (i := 23) (v := ?v23_202) (a' := ?a23_202) (by first | exact Kx.bears_x | assumption) rfl (by kernel_rfl) (by kernel_rfl) (by kernel_rfl) (fun _ _ _ h => h) (by kernel_rfl) ?w23_202 ?y23_202 ?f23_202 ?r23_202
    case w23_202 => kernel_rfl
    case y23_202 => (intro w hC; go_simp; try with_reducible rfl)
    case f23_202 => (go_simp; try with_reducible rfl)
    refine anyW_done (by kernel_rfl) ?_
    clear HB
    intro w_ HB_
    have HB := Lib.hid HB_
    clear HB_
    go_wp2
    go_ret
    exact ⟨rfl, HB.out.below⟩
  · clear HO
    refine Kx.region_x HB (fun i => false) (by kernel_rfl) ?_
    refine anyW_take (i := 0) (v := ?v0_203) (a' := ?a0_203) (by first | exact Kx.bears_x | assumption) rfl (by kernel_rfl) (by kernel_rfl) (by kernel_rfl) (fun _ _ _ h => h) (by kernel_rfl) ?w0_203 ?y0_203 ?f0_203 ?r0_203
    case w0_203 => kernel_rfl
    case y0_203 => (intro w hC; go_simp; try with_reducible rfl)
    case f0_203 => (go_simp; try with_reducible rfl)
    refine anyW_take (i := 1) (v := ?v1_204) (a' := ?a1_204) (by first | exact Kx.bears_x | assumption) rfl (by kernel_rfl) (by kernel_rfl) (by kernel_rfl) (fun _ _ _ h => h) (by kernel_rfl) ?w1_204 ?y1_204 ?f1_204 ?r1_204
    case w1_204 => kernel_rfl
    case y1_204 => (intro w hC; go_simp; try with_reducible rfl)
    case f1_204 => (go_simp; try with_reducible rfl)
    refine anyW_take (i := 2) (v := ?v2_205) (a' := ?a2_205) (by first | exact Kx.bears_x | assumption) rfl (by kernel_rfl) (by kernel_rfl) (by kernel_rfl) (fun _ _ _ h => h) (by kernel_rfl) ?w2_205 ?y2_205 ?f2_205 ?r2_205
    case w2_205 => kernel_rfl
    case y2_205 => (intro w hC; go_simp; try with_reducible rfl)
    case f2_205 => (go_simp; try with_reducible rfl)
    refine anyW_take (i := 3) (v := ?v3_206) (a' := ?a3_206) (by first | exact Kx.bears_x | assumption) rfl (by kernel_rfl) (by kernel_rfl) (by kernel_rfl) (fun _ _ _ h => h) (by kernel_rfl) ?w3_206 ?y3_206 ?f3_206 ?r3_206
    case w3_206 => kernel_rfl
    case y3_206 => (intro w hC; go_simp; try with_reducible rfl)
    case f3_206 => (go_simp; try with_reducible rfl)
    refine anyW_take (i := 4) (v := ?v4_207) (a' := ?a4_207) (by first | exact Kx.bears_x | assumption) rfl (by kernel_rfl) (by kernel_rfl) (by kernel_rfl) (fun _ _ _ h => h) (by kernel_rfl) ?w4_207 ?y4_207 ?f4_207 ?r4_207
    case w4_207 => kernel_rfl
    case y4_207 => (intro w hC; go_simp; try with_reducible rfl)
    case f4_207 => (go_simp; try with_reducible rfl)
    refine anyW_take (i := 5) (v := ?v5_208) (a' := ?a5_208) (by first | exact Kx.bears_x | assumption) rfl (by kernel_rfl) (by kernel_rfl) (by kernel_rfl) (fun _ _ _ h => h) (by kernel_rfl) ?w5_208 ?y5_208 ?f5_208 ?r5_208
    case w5_208 => kernel_rfl
    case y5_208 => (intro W hW; first | (refine Eq.trans (Kx.tells_load1_x hW _ _ rfl _ inferInstance (Try.isAgg4 _) rfl) ?_; with_reducible rfl) | (refine Eq.trans (Kx.tells_load1_x hW _ _ rfl _ inferInstance (Try.isAgg3 _) rfl) ?_; with_reducible rfl) | (refine Eq.trans (Kx.tells_load1_x hW _ _ rfl _ inferInstance (Try.isAgg2 _) rfl) ?_; with_reducible rfl) | (refine Eq.trans (Kx.tells_old_x hW _ rfl (Try.isAgg4 _) HC.out) ?_; with_reducible rfl) | (refine Eq.trans (Kx.tells_old_x hW _ rfl (Try.isAgg3 _) HC.out) ?_; with_reducible rfl) | (refine Eq.trans (Kx.tells_old_x hW _ rfl (Try.isAgg2 _) HC.out) ?_; with_reducible rfl) | (refine Eq.trans (Kx.tells_load_x hW _ _ rfl _ inferInstance _ (Try.isAgg25 _) (Try.sizeOf25 _) _ (by first | exact Kx.whole (by rfl) | (simp <;> rfl)) (by rfl) rfl) ?_; with_reducible rfl) | (refine Eq.trans (Kx.tells_load_x hW _ _ rfl _ inferInstance _ (Try.isAgg28 _) (Try.sizeOf28 _) _ (by first | exact Kx.whole (by rfl) | (simp <;> rfl)) (by rfl) rfl) ?_; with_reducible rfl))
    case f5_208 => (go_simp; try with_reducible rfl)
    refine anyW_take (i := 6) (v := ?v6_209) (a' := ?a6_209) (by first | exact Kx.bears_x | assumption) rfl (by kernel_rfl) (by kernel_rfl) (by kernel_rfl) (fun _ _ _ h => h) (by kernel_rfl) ?w6_209 ?y6_209 ?f6_209 ?r6_209
    case w6_209 => kernel_rfl
    case y6_209 => (intro w hC; go_simp; try with_reducible rfl)
    case f6_209 => (go_simp; try with_reducible rfl)
    refine anyW_take (i := 7) (v := ?v7_210) (a' := ?a7_210) (by first | exact Kx.bears_x | assumption) rfl (by kernel_rfl) (by kernel_rfl) (by kernel_rfl) (fun _ _ _ h => h) (by kernel_rfl) ?w7_210 ?y7_210 ?f7_210 ?r7_210
    case w7_210 => kernel_rfl
    case y7_210 => (intro w hC; go_simp; try with_reducible rfl)
    case f7_210 => (go_simp; try with_reducible rfl)
    refine anyW_take (i := 8) (v := ?v8_211) (a' := ?a8_211) (by first | exact Kx.bears_x | assumption) rfl (by kernel_rfl) (by kernel_rfl) (by kernel_rfl) (fun _ _ _ h => h) (by kernel_rfl) ?w8_211 ?y8_211 ?f8_211 ?r8_211
    case w8_211 => kernel_rfl
    case y8_211 => (intro w hC; go_simp; try with_reducible rfl)
    case f8_211 => (go_simp; try with_reducible rfl)
    refine anyW_take (i := 9) (v := ?v9_212) (a' := ?a9_212) (by first | exact Kx.bears_x | assumption) rfl (by kernel_rfl) (by kernel_rfl) (by kernel_rfl) (fun _ _ _ h => h) (by kernel_rfl) ?w9_212 ?y9_212 ?f9_212 ?r9_212
    case w9_212 => kernel_rfl
    case y9_212 => (intro w hC; go_simp; try with_reducible rfl)
    case f9_212 => (go_simp; try with_reducible rfl)
    refine anyW_take (i := 10) (v := ?v10_213) (a' := ?a10_213) (by first | exact Kx.bears_x | assumption) rfl (by kernel_rfl) (by kernel_rfl) (by kernel_rfl) (fun _ _ _ h => h) (by kernel_rfl) ?w10_213 ?y10_213 ?f10_213 ?r10_213
    case w10_213 => kernel_rfl
    case y10_213 => (intro W hW; first | (refine Eq.trans (Kx.tells_load1_x hW _ _ rfl _ inferInstance (Try.isAgg4 _) rfl) ?_; with_reducible rfl) | (refine Eq.trans (Kx.tells_load1_x hW _ _ rfl _ inferInstance (Try.isAgg3 _) rfl) ?_; with_reducible rfl) | (refine Eq.trans (Kx.tells_load1_x hW _ _ rfl _ inferInstance (Try.isAgg2 _) rfl) ?_; with_reducible rfl) | (refine Eq.trans (Kx.tells_old_x hW _ rfl (Try.isAgg4 _) HC.out) ?_; with_reducible rfl) | (refine Eq.trans (Kx.tells_old_x hW _ rfl (Try.isAgg3 _) HC.out) ?_; with_reducible rfl) | (refine Eq.trans (Kx.tells_old_x hW _ rfl (Try.isAgg2 _) HC.out) ?_; with_reducible rfl) | (refine Eq.trans (Kx.tells_load_x hW _ _ rfl _ inferInstance _ (Try.isAgg25 _) (Try.sizeOf25 _) _ (by first | exact Kx.whole (by rfl) | (simp <;> rfl)) (by rfl) rfl) ?_; with_reducible rfl) | (refine Eq.trans (Kx.tells_load_x hW _ _ rfl _ inferInstance _ (Try.isAgg28 _) (Try.sizeOf28 _) _ (by first | exact Kx.whole (by rfl) | (simp <;> rfl)) (by rfl) rfl) ?_; with_reducible rfl))
    case f10_213 => (go_simp; try with_reducible rfl)
    refine anyW_take (i := 11) (v := ?v11_214) (a' := ?a11_214) (by first | exact Kx.bears_x | assumption) rfl (by kernel_rfl) (by kernel_rfl) (by kernel_rfl) (fun _ _ _ h => h) (by kernel_rfl) ?w11_214 ?y11_214 ?f11_214 ?r11_214
    case w11_214 => kernel_rfl
    case y11_214 => (intro W hW; first | (refine Eq.trans (Kx.tells_load1_x hW _ _ rfl _ inferInstance (Try.isAgg4 _) rfl) ?_; with_reducible rfl) | (refine Eq.trans (Kx.tells_load1_x hW _ _ rfl _ inferInstance (Try.isAgg3 _) rfl) ?_; with_reducible rfl) | (refine Eq.trans (Kx.tells_load1_x hW _ _ rfl _ inferInstance (Try.isAgg2 _) rfl) ?_; with_reducible rfl) | (refine Eq.trans (Kx.tells_old_x hW _ rfl (Try.isAgg4 _) HC.out) ?_; with_reducible rfl) | (refine Eq.trans (Kx.tells_old_x hW _ rfl (Try.isAgg3 _) HC.out) ?_; with_reducible rfl) | (refine Eq.trans (Kx.tells_old_x hW _ rfl (Try.isAgg2 _) HC.out) ?_; with_reducible rfl) | (refine Eq.trans (Kx.tells_load_x hW _ _ rfl _ inferInstance _ (Try.isAgg25 _) (Try.sizeOf25 _) _ (by first | exact Kx.whole (by rfl) | (simp <;> rfl)) (by rfl) rfl) ?_; with_reducible rfl) | (refine Eq.trans (Kx.tells_load_x hW _ _ rfl _ inferInstance _ (Try.isAgg28 _) (Try.sizeOf28 _) _ (by first | exact Kx.whole (by rfl) | (simp <;> rfl)) (by rfl) rfl) ?_; with_reducible rfl))
    case f11_214 => (go_simp; try with_reducible rfl)
    refine anyW_call (i := 12) (v := ?v12_215) (f := ?g12_215) (args := ?s12_215) (a' := ?a12_215) (by first | exact Kx.bears_x | assumption) rfl (by kernel_rfl) (by kernel_rfl) (by kernel_rfl) (fun _ _ _ h => h) (by kernel_rfl) ?c12_215 ?w12_215 ?y12_215 ?f12_215 ?r12_215
    case w12_215 => kernel_rfl
    case y12_215 => (intro W hW; go_simp; first | (refine ⟨?_, ?_⟩ <;> with_reducible rfl) | with_reducible rfl)
    case c12_215 => (intro W hW; refine Calls.mono (PSame_self ⟨_, _, _, _, ⟨_, _⟩⟩ _) ?_; rintro e w_ ⟨rfl, hb_⟩; refine ⟨?_, by first | exact hb_ | exact hb_ ▸ Below.refl _ _⟩; with_reducible rfl)
    case f12_215 => (go_simp; try with_reducible rfl)
    refine anyW_take (i := 13) (v := ?v13_216) (a' := ?a13_216) (by first | exact Kx.bears_x | assumption) rfl (by kernel_rfl) (by kernel_rfl) (by kernel_rfl) (fun _ _ _ h => h) (by kernel_rfl) ?w13_216 ?y13_216 ?f13_216 ?r13_216
    case w13_216 => kernel_rfl
    case y13_216 => (intro w hC; go_simp; try with_reducible rfl)
    case f13_216 => (go_simp; try with_reducible rfl)
    refine anyW_take (i := 14) (v := ?v14_217) (a' := ?a14_217) (by first | exact Kx.bears_x | assumption) rfl (by kernel_rfl) (by kernel_rfl) (by kernel_rfl) (fun _ _ _ h => h) (by kernel_rfl) ?w14_217 ?y14_217 ?f14_217 ?r14_217
    case w14_217 => kernel_rfl
    case y14_217 => (intro w hC; go_simp; try with_reducible rfl)
    case f14_217 => (go_simp; try with_reducible rfl)
    refine anyW_take (i := 15) (v := ?v15_218) (a' := ?a15_218) (by first | exact Kx.bears_x | assumption) rfl (by kernel_rfl) (by kernel_rfl) (by kernel_rfl) (fun _ _ _ h => h) (by kernel_rfl) ?w15_218 ?y15_218 ?f15_218 ?r15_218
    case w15_218 => kernel_rfl
    case y15_218 => (intro W hW; first | (refine Eq.trans (Kx.tells_load1_x hW _ _ rfl _ inferInstance (Try.isAgg4 _) rfl) ?_; with_reducible rfl) | (refine Eq.trans (Kx.tells_load1_x hW _ _ rfl _ inferInstance (Try.isAgg3 _) rfl) ?_; with_reducible rfl) | (refine Eq.trans (Kx.tells_load1_x hW _ _ rfl _ inferInstance (Try.isAgg2 _) rfl) ?_; with_reducible rfl) | (refine Eq.trans (Kx.tells_old_x hW _ rfl (Try.isAgg4 _) HC.out) ?_; with_reducible rfl) | (refine Eq.trans (Kx.tells_old_x hW _ rfl (Try.isAgg3 _) HC.out) ?_; with_reducible rfl) | (refine Eq.trans (Kx.tells_old_x hW _ rfl (Try.isAgg2 _) HC.out) ?_; with_reducible rfl) | (refine Eq.trans (Kx.tells_load_x hW _ _ rfl _ inferInstance _ (Try.isAgg25 _) (Try.sizeOf25 _) _ (by first | exact Kx.whole (by rfl) | (simp <;> rfl)) (by rfl) rfl) ?_; with_reducible rfl) | (refine Eq.trans (Kx.tells_load_x hW _ _ rfl _ inferInstance _ (Try.isAgg28 _) (Try.sizeOf28 _) _ (by first | exact Kx.whole (by rfl) | (simp <;> rfl)) (by rfl) rfl) ?_; with_reducible rfl))
    case f15_218 => (go_simp; try with_reducible rfl)
    refine anyW_take (i := 16) (v := ?v16_219) (a' := ?a16_219) (by first | exact Kx.bears_x | assumption) rfl (by kernel_rfl) (by kernel_rfl) (by kernel_rfl) (fun _ _ _ h => h) (by kernel_rfl) ?w16_219 ?y16_219 ?f16_219 ?r16_219
    case w16_219 => kernel_rfl
    case y16_219 => (intro W hW; first | (refine Eq.trans (Kx.tells_load1_x hW _ _ rfl _ inferInstance (Try.isAgg4 _) rfl) ?_; with_reducible rfl) | (refine Eq.trans (Kx.tells_load1_x hW _ _ rfl _ inferInstance (Try.isAgg3 _) rfl) ?_; with_reducible rfl) | (refine Eq.trans (Kx.tells_load1_x hW _ _ rfl _ inferInstance (Try.isAgg2 _) rfl) ?_; with_reducible rfl) | (refine Eq.trans (Kx.tells_old_x hW _ rfl (Try.isAgg4 _) HC.out) ?_; with_reducible rfl) | (refine Eq.trans (Kx.tells_old_x hW _ rfl (Try.isAgg3 _) HC.out) ?_; with_reducible rfl) | (refine Eq.trans (Kx.tells_old_x hW _ rfl (Try.isAgg2 _) HC.out) ?_; with_reducible rfl) | (refine Eq.trans (Kx.tells_load_x hW _ _ rfl _ inferInstance _ (Try.isAgg25 _) (Try.sizeOf25 _) _ (by first | exact Kx.whole (by rfl) | (simp <;> rfl)) (by rfl) rfl) ?_; with_reducible rfl) | (refine Eq.trans (Kx.tells_load_x hW _ _ rfl _ inferInstance _ (Try.isAgg28 _) (Try.sizeOf28 _) _ (by first | exact Kx.whole (by rfl) | (simp <;> rfl)) (by rfl) rfl) ?_; with_reducible rfl))
    case f16_219 => (go_simp; try with_reducible rfl)
    refine anyW_take (i := 17) (v := ?v17_220) (a' := ?a17_220) (by first | exact Kx.bears_x | assumption) rfl (by kernel_rfl) (by kernel_rfl) (by kernel_rfl) (fun _ _ _ h => h) (by kernel_rfl) ?w17_220 ?y17_220 ?f17_220 ?r17_220
    case w17_220 => kernel_rfl
    case y17_220 => (intro w hC; go_simp; try with_reducible rfl)
    case f17_220 => (go_simp; try with_reducible rfl)
    refine anyW_take (i := 18) (v := ?v18_221) (a' := ?a18_221) (by first | exact Kx.bears_x | assumption) rfl (by kernel_rfl) (by kernel_rfl) (by kernel_rfl) (fun _ _ _ h => h) (by kernel_rfl) ?w18_221 ?y18_221 ?f18_221 ?r18_221
    case w18_221 => kernel_rfl
    case y18_221 => (intro W hW; first | (refine Eq.trans (Kx.tells_load1_x hW _ _ rfl _ inferInstance (Try.isAgg4 _) rfl) ?_; with_reducible rfl) | (refine Eq.trans (Kx.tells_load1_x hW _ _ rfl _ inferInstance (Try.isAgg3 _) rfl) ?_; with_reducible rfl) | (refine Eq.trans (Kx.tells_load1_x hW _ _ rfl _ inferInstance (Try.isAgg2 _) rfl) ?_; with_reducible rfl) | (refine Eq.trans (Kx.tells_old_x hW _ rfl (Try.isAgg4 _) HC.out) ?_; with_reducible rfl) | (refine Eq.trans (Kx.tells_old_x hW _ rfl (Try.isAgg3 _) HC.out) ?_; with_reducible rfl) | (refine Eq.trans (Kx.tells_old_x hW _ rfl (Try.isAgg2 _) HC.out) ?_; with_reducible rfl) | (refine Eq.trans (Kx.tells_load_x hW _ _ rfl _ inferInstance _ (Try.isAgg25 _) (Try.sizeOf25 _) _ (by first | exact Kx.whole (by rfl) | (simp <;> rfl)) (by rfl) rfl) ?_; with_reducible rfl) | (refine Eq.trans (Kx.tells_load_x hW _ _ rfl _ inferInstance _ (Try.isAgg28 _) (Try.sizeOf28 _) _ (by first | exact Kx.whole (by rfl) | (simp <;> rfl)) (by rfl) rfl) ?_; with_reducible rfl))
    case f18_221 => (go_simp; try with_reducible rfl)
    refine anyW_call (i := 19) (v := ?v19_222) (f := ?g19_222) (args := ?s19_222) (a' := ?a19_222) (by first | exact Kx.bears_x | assumption) rfl (by kernel_rfl) (by kernel_rfl) (by kernel_rfl) (fun _ _ _ h => h) (by kernel_rfl) ?c19_222 ?w19_222 ?y19_222 ?f19_222 ?r19_222
    case w19_222 => kernel_rfl
    case y19_222 => (intro W hW; go_simp; first | (refine ⟨?_, ?_⟩ <;> with_reducible rfl) | with_reducible rfl)
    case c19_222 => (intro W hW; refine Calls.mono (HA2.out _) ?_; rintro e w_ ⟨rfl, hb_⟩; refine ⟨?_, by first | exact hb_ | exact hb_ ▸ Below.refl _ _⟩; with_reducible rfl)
    case f19_222 => (go_simp; try with_reducible rfl)
    refine anyW_take (i := 20) (v := ?v20_223) (a' := ?a20_223) (by first | exact Kx.bears_x | assumption) rfl (by kernel_rfl) (by kernel_rfl) (by kernel_rfl) (fun _ _ _ h => h) (by kernel_rfl) ?w20_223 ?y20_223 ?f20_223 ?r20_223
    case w20_223 => kernel_rfl
    case y20_223 => (intro W hW; first | (refine Eq.trans (Kx.tells_load1_x hW _ _ rfl _ inferInstance (Try.isAgg4 _) rfl) ?_; with_reducible rfl) | (refine Eq.trans (Kx.tells_load1_x hW _ _ rfl _ inferInstance (Try.isAgg3 _) rfl) ?_; with_reducible rfl) | (refine Eq.trans (Kx.tells_load1_x hW _ _ rfl _ inferInstance (Try.isAgg2 _) rfl) ?_; with_reducible rfl) | (refine Eq.trans (Kx.tells_old_x hW _ rfl (Try.isAgg4 _) HC.out) ?_; with_reducible rfl) | (refine Eq.trans (Kx.tells_old_x hW _ rfl (Try.isAgg3 _) HC.out) ?_; with_reducible rfl) | (refine Eq.trans (Kx.tells_old_x hW _ rfl (Try.isAgg2 _) HC.out) ?_; with_reducible rfl) | (refine Eq.trans (Kx.tells_load_x hW _ _ rfl _ inferInstance _ (Try.isAgg25 _) (Try.sizeOf25 _) _ (by first | exact Kx.whole (by rfl) | (simp <;> rfl)) (by rfl) rfl) ?_; with_reducible rfl) | (refine Eq.trans (Kx.tells_load_x hW _ _ rfl _ inferInstance _ (Try.isAgg28 _) (Try.sizeOf28 _) _ (by first | exact Kx.whole (by rfl) | (simp <;> rfl)) (by rfl) rfl) ?_; with_reducible rfl))
    case f20_223 => (go_simp; try with_reducible rfl)
    refine anyW_call (i := 21) (v := ?v21_224) (f := ?g21_224) (args := ?s21_224) (a' := ?a21_224) (by first | exact Kx.bears_x | assumption) rfl (by kernel_rfl) (by kernel_rfl) (by kernel_rfl) (fun _ _ _ h => h) (by kernel_rfl) ?c21_224 ?w21_224 ?y21_224 ?f21_224 ?r21_224
    case w21_224 => kernel_rfl
    case y21_224 => (intro W hW; go_simp; first | (refine ⟨?_, ?_⟩ <;> with_reducible rfl) | with_reducible rfl)
    case c21_224 => (intro W hW; refine Calls.mono (HS.out _) ?_; rintro e w_ ⟨rfl, hb_⟩; refine ⟨?_, by first | exact hb_ | exact hb_ ▸ Below.refl _ _⟩; with_reducible rfl)
    case f21_224 => (go_simp; try with_reducible rfl)
    refine anyW_take (i := 22) (v := ?v22_225) (a' := ?a22_225) (by first | exact Kx.bears_x | assumption) rfl (by kernel_rfl) (by kernel_rfl) (by kernel_rfl) (fun _ _ _ h => h) (by kernel_rfl) ?w22_225 ?y22_225 ?f22_225 ?r22_225
    case w22_225 => kernel_rfl
    case y22_225 => (intro w hC; go_simp; try with_reducible rfl)
    case f22_225 => (go_simp; try with_reducible rfl)
    refine anyW_take (i := 23) (v := ?v23_226) (a' := ?a23_226) (by first | exact Kx.bears_x | assumption) rfl (by kernel_rfl) (by kernel_rfl) (by kernel_rfl) (fun _ _ _ h => h) (by kernel_rfl) ?w23_226 ?y23_226 ?f23_226 ?r23_226
    case w23_226 => kernel_rfl
    case y23_226 => (intro w hC; go_simp; try with_reducible rfl)
    case f23_226 => (go_simp; try with_reducible rfl)
    refine anyW_done (by kernel_rfl) ?_
    clear HB
    intro w_ HB_
    have HB := Lib.hid HB_
    clear HB_
    go_wp2
    go_ret
    exact ⟨rfl, HB.out.below⟩
set_option maxRecDepth 100000 in
set_option maxHeartbeats 4000000 in
theorem late_down1 (nx : Int) (op : Bool) (nn sc r0 : Int) (e wt n : Int) (w : World) (e0 : 0 ≤ e ∧ e ≤ 255) (w0 : 0 ≤ wt ∧ wt ≤ 255) (n0 : 0 ≤ n ∧ n ≤ 65535) :
    Calls Try.prog 8 #[.agg #[.int .i64 nx, .bool op, .int .i64 nn, .int .i64 sc, .bool false, .int .i64 r0], .int .u8 e, .int .u8 wt, .int .u16 n, .int .i64 0] w fun e w' => e = .returned (.bool true) ∧ Below w.heap.size w w' := by
  obtain ⟨e0, e1⟩ := e0
  obtain ⟨w0, w1⟩ := w0
  obtain ⟨n0, n1⟩ := n0
  have HB := Lib.hid (Bxs.start w)
  have v1 : IntKind.i64.wrap e = e := by rw [IntKind.wrap_i64]; omega
  have v2 : IntKind.i64.wrap (1 + e) = 1 + e := by rw [IntKind.wrap_i64]; omega
  have v3 : IntKind.i64.wrap wt = wt := by rw [IntKind.wrap_i64]; omega
  have v4 : IntKind.i64.wrap (1 + wt) = 1 + wt := by rw [IntKind.wrap_i64]; omega
  have v5 : IntKind.i64.wrap n = n := by rw [IntKind.wrap_i64]; omega
  have v6 : IntKind.i64.wrap (n + (1 + wt)) = n + (1 + wt) := by rw [IntKind.wrap_i64]; omega
  have HT1 : Hid (∀ W, Calls Try.prog 10 #[.agg #[.int .i64 n, .bool false, .int .i64 nn, .int .i64 sc, .bool false, .int .i64 r0], .agg (cf (mk (1 + e) (1 + wt) 2 2)).toArray, .int .i64 n, .int .i64 0] W fun e' w' => e' = .returned (.tuple #[.agg #[.int .i64 (Pm.bd (n + Pm.bd (1 + e))), .bool true, .int .i64 0, .int .i64 n, .bool false, .int .i64 r0], .bool true]) ∧ Below W.heap.size W w') := Lib.hid fun W => by
    have h := Tick_any ⟨n, false, nn, sc, ⟨false, r0⟩⟩ (mk (1 + e) (1 + wt) 2 2) n 0 W
    dsimp only [mk] at h
    rw [late_first ⟨false, r0⟩ nn sc (1 + e) (1 + wt) n 0 n0 n1] at h
    exact h
  obtain ⟨q, b, hq, hs, ho⟩ := late_second ⟨false, r0⟩ (Pm.bd (n + Pm.bd (1 + e))) (1 + e) (1 + wt) n 0 1 n0 n1 (by omega) (by omega)
  have HT2 : Hid (∀ W, Calls Try.prog 10 #[.agg #[.int .i64 (Pm.bd (n + Pm.bd (1 + e))), .bool true, .int .i64 0, .int .i64 n, .bool false, .int .i64 r0], .agg (cf (mk (1 + e) (1 + wt) 2 2)).toArray, .int .i64 (n + (1 + wt)), .int .i64 1] W fun e' w' => e' = .returned (.tuple #[.agg (pl q).toArray, .bool b]) ∧ Below W.heap.size W w') := Lib.hid fun W => by
    have h := Tick_any ⟨Pm.bd (n + Pm.bd (1 + e)), true, 0, n, ⟨false, r0⟩⟩ (mk (1 + e) (1 + wt) 2 2) (n + (1 + wt)) 1 W
    dsimp only [mk] at h
    rw [hq] at h
    exact h
  have HA1 : Hid (∀ W, Calls Try.prog 13 #[.agg (pl q).toArray, .agg (cf (mk (1 + e) (1 + wt) 2 2)).toArray, .int .i64 0] W fun e' w' => e' = .returned (.agg (pl q).toArray) ∧ Below W.heap.size W w') := Lib.hid fun W => by
    have h := Alive_any q (mk (1 + e) (1 + wt) 2 2) 0 W
    rw [late_third (o := 1) (fun k => (ho k).1) (by decide)] at h
    exact h
  have HA2 : Hid (∀ W, Calls Try.prog 13 #[.agg #[.int .i64 n, .bool false, .int .i64 nn, .int .i64 sc, .bool false, .int .i64 r0], .agg (cf (mk (1 + e) (1 + wt) 2 2)).toArray, .int .i64 nn] W fun e' w' => e' = .returned (.agg #[.int .i64 n, .bool false, .int .i64 nn, .int .i64 sc, .bool false, .int .i64 r0]) ∧ Below W.heap.size W w') := Lib.hid fun W => by
    have h := Alive_any ⟨n, false, nn, sc, ⟨false, r0⟩⟩ (mk (1 + e) (1 + wt) 2 2) nn W
    rw [Pm.alive_shut rfl] at h
    exact h
  have HS : Hid (∀ W, Calls Try.prog 12 #[.agg #[.int .i64 n, .bool false, .int .i64 nn, .int .i64 sc, .bool false, .int .i64 r0], .agg #[.int .i64 n, .bool false, .int .i64 nn, .int .i64 sc, .bool false, .int .i64 r0]] W fun e' w' => e' = .returned (.bool true) ∧ Below W.heap.size W w') := Lib.hid fun W => PSame_self ⟨n, false, nn, sc, ⟨false, r0⟩⟩ W
  have HM := Lib.hid (mk_built (1 + e) (1 + wt) 2 2)
  dsimp only [cf, mk] at HT1 HT2 HA1 HA2
  clear hq
  obtain ⟨qx, qo, qn, qs, ⟨qu, qr⟩⟩ := q
  have hob : b = true ∨ (b = false ∧ qo = false) := by cases qo with
    | true => exact .inl (ho rfl).2
    | false => cases b <;> simp
  generalize Pm.bd (n + Pm.bd (1 + e)) = X at *
  have HO := Lib.hid hob
  clear hs ho hob
  go_enter Try.func8, Try.ntmps8
  go_wp2_with (first | ((with_reducible refine Kx.build_gate ?_); refine Km.wpList_build rfl 28 _ rfl #[(6, .int .i64 (1 + e)), (7, .int .i64 (1 + wt)), (8, .int .i64 2), (9, .int .i64 2)] rfl (cf (mk (1 + e) (1 + wt) 2 2)).toArray (HM.out) ?_; refine Kx.framed ?_ (by simp only [Act.put, List.setIfInBounds_toArray, List.set_cons_succ, List.set_cons_zero] <;> rfl)) | (go_at_call 9; refine Calls.mono (head_any _) ?_; rintro e w_ ⟨rfl, hb_⟩; replace HB := Lib.hid (HB.out.call hb_); clear hb_) | (go_at_call 10; with_reducible refine Kx.args_gate #[_, _, .int .i64 n, _] ?_; refine Calls.mono (HT1.out _) ?_; rintro e w_ ⟨rfl, hb_⟩; replace HB := Lib.hid (HB.out.call hb_); clear hb_) | (go_at_call 10; refine Calls.mono (HT2.out _) ?_; rintro e w_ ⟨rfl, hb_⟩; replace HB := Lib.hid (HB.out.call hb_); clear hb_) | (go_at_call 13; refine Calls.mono (HA1.out _) ?_; rintro e w_ ⟨rfl, hb_⟩; replace HB := Lib.hid (HB.out.call hb_); clear hb_) | (first | ((with_reducible refine Kx.absorb HB ?_); clear HB; intro w_ HB) | ((with_reducible refine Kx.box_gate ?_); first | (refine Kx.wpList_boxa_x HB rfl _ _ rfl _ rfl ?_; clear HB; intro b_ w_ HB; refine Kx.framed ?_ (by simp only [Act.put, List.setIfInBounds_toArray, List.set_cons_succ, List.set_cons_zero] <;> rfl)) | (refine Kx.wpList_boxt_x HB rfl _ _ rfl _ rfl rfl ?_; clear HB; intro b_ w_ HB; refine Kx.framed ?_ (by simp only [Act.put, List.setIfInBounds_toArray, List.set_cons_succ, List.set_cons_zero] <;> rfl)) | (refine Kx.wpList_box1_x HB rfl _ _ rfl _ rfl rfl ?_; clear HB; intro b_ w_ HB; refine Kx.framed ?_ (by simp only [Act.put, List.setIfInBounds_toArray, List.set_cons_succ, List.set_cons_zero] <;> rfl))) | ((with_reducible refine Kx.alloc_gate ?_); first | (refine Kx.wpList_alloca_x HB rfl _ rfl _ (Try.zeroValue25 _) ?_; clear HB; intro b_ w_ HB; refine Kx.framed ?_ (by simp only [Act.put, List.setIfInBounds_toArray, List.set_cons_succ, List.set_cons_zero] <;> rfl)) | (refine Kx.wpList_alloca_x HB rfl _ rfl _ (Try.zeroValue28 _) ?_; clear HB; intro b_ w_ HB; refine Kx.framed ?_ (by simp only [Act.put, List.setIfInBounds_toArray, List.set_cons_succ, List.set_cons_zero] <;> rfl)) | (refine Kx.wpList_alloc1_x HB rfl _ rfl _ (Try.zeroValue4 _) rfl ?_; clear HB; intro b_ w_ HB; refine Kx.framed ?_ (by simp only [Act.put, List.setIfInBounds_toArray, List.set_cons_succ, List.set_cons_zero] <;> rfl)) | (refine Kx.wpList_alloc1_x HB rfl _ rfl _ (Try.zeroValue3 _) rfl ?_; clear HB; intro b_ w_ HB; refine Kx.framed ?_ (by simp only [Act.put, List.setIfInBounds_toArray, List.set_cons_succ, List.set_cons_zero] <;> rfl)) | (refine Kx.wpList_alloc1_x HB rfl _ rfl _ (Try.zeroValue2 _) rfl ?_; clear HB; intro b_ w_ HB; refine Kx.framed ?_ (by simp only [Act.put, List.setIfInBounds_toArray, List.set_cons_succ, List.set_cons_zero] <;> rfl))) | ((with_reducible refine Kx.loads_gate ?_); first | (refine Kx.wpList_load1_x HB rfl _ _ rfl _ rfl _ (Try.isAgg4 _) _ rfl (Kx.framed ?_ (by simp only [Act.put, List.setIfInBounds_toArray, List.set_cons_succ, List.set_cons_zero] <;> rfl))) | (refine Kx.wpList_load1_x HB rfl _ _ rfl _ rfl _ (Try.isAgg3 _) _ rfl (Kx.framed ?_ (by simp only [Act.put, List.setIfInBounds_toArray, List.set_cons_succ, List.set_cons_zero] <;> rfl))) | (refine Kx.wpList_load1_x HB rfl _ _ rfl _ rfl _ (Try.isAgg2 _) _ rfl (Kx.framed ?_ (by simp only [Act.put, List.setIfInBounds_toArray, List.set_cons_succ, List.set_cons_zero] <;> rfl))) | (refine Kx.wpList_load_x HB rfl _ _ rfl _ rfl _ _ (Try.isAgg25 _) (Try.sizeOf25 _) _ (by first | exact Kx.whole (by rfl) | (simp <;> rfl)) (by rfl) (Kx.framed ?_ (by simp only [Act.put, List.setIfInBounds_toArray, List.set_cons_succ, List.set_cons_zero] <;> rfl))) | (refine Kx.wpList_load_x HB rfl _ _ rfl _ rfl _ _ (Try.isAgg28 _) (Try.sizeOf28 _) _ (by first | exact Kx.whole (by rfl) | (simp <;> rfl)) (by rfl) (Kx.framed ?_ (by simp only [Act.put, List.setIfInBounds_toArray, List.set_cons_succ, List.set_cons_zero] <;> rfl))) | (refine Kx.wpList_old_x HB rfl _ _ rfl _ rfl (Try.isAgg4 _) _ HC.out (Kx.framed ?_ (by simp only [Act.put, List.setIfInBounds_toArray, List.set_cons_succ, List.set_cons_zero] <;> rfl))) | (refine Kx.wpList_old_x HB rfl _ _ rfl _ rfl (Try.isAgg3 _) _ HC.out (Kx.framed ?_ (by simp only [Act.put, List.setIfInBounds_toArray, List.set_cons_succ, List.set_cons_zero] <;> rfl))) | (refine Kx.wpList_old_x HB rfl _ _ rfl _ rfl (Try.isAgg2 _) _ HC.out (Kx.framed ?_ (by simp only [Act.put, List.setIfInBounds_toArray, List.set_cons_succ, List.set_cons_zero] <;> rfl)))) | ((with_reducible refine Kx.loadg_gate ?_); first | (refine Kx.wpList_loadg_x HB _ _ rfl _ rfl _ (Try.isAgg4 _) _ rfl rfl (Kx.framed ?_ (by simp only [Act.put, List.setIfInBounds_toArray, List.set_cons_succ, List.set_cons_zero] <;> rfl))) | (refine Kx.wpList_loadg_x HB _ _ rfl _ rfl _ (Try.isAgg3 _) _ rfl rfl (Kx.framed ?_ (by simp only [Act.put, List.setIfInBounds_toArray, List.set_cons_succ, List.set_cons_zero] <;> rfl))) | (refine Kx.wpList_loadg_x HB _ _ rfl _ rfl _ (Try.isAgg2 _) _ rfl rfl (Kx.framed ?_ (by simp only [Act.put, List.setIfInBounds_toArray, List.set_cons_succ, List.set_cons_zero] <;> rfl))) | (refine Kx.wpList_loadga_x HB _ _ rfl _ rfl _ _ (Try.isAgg25 _) (Try.sizeOf25 _) _ (by first | exact Kx.whole (by rfl) | (simp <;> rfl)) (by rfl) rfl (Kx.framed ?_ (by simp only [Act.put, List.setIfInBounds_toArray, List.set_cons_succ, List.set_cons_zero] <;> rfl))) | (refine Kx.wpList_loadga_x HB _ _ rfl _ rfl _ _ (Try.isAgg28 _) (Try.sizeOf28 _) _ (by first | exact Kx.whole (by rfl) | (simp <;> rfl)) (by rfl) rfl (Kx.framed ?_ (by simp only [Act.put, List.setIfInBounds_toArray, List.set_cons_succ, List.set_cons_zero] <;> rfl))) | (refine Kx.wpList_oldg_x HB _ _ rfl _ rfl (Try.isAgg4 _) _ HC.out rfl (Kx.framed ?_ (by simp only [Act.put, List.setIfInBounds_toArray, List.set_cons_succ, List.set_cons_zero] <;> rfl))) | (refine Kx.wpList_oldg_x HB _ _ rfl _ rfl (Try.isAgg3 _) _ HC.out rfl (Kx.framed ?_ (by simp only [Act.put, List.setIfInBounds_toArray, List.set_cons_succ, List.set_cons_zero] <;> rfl))) | (refine Kx.wpList_oldg_x HB _ _ rfl _ rfl (Try.isAgg2 _) _ HC.out rfl (Kx.framed ?_ (by simp only [Act.put, List.setIfInBounds_toArray, List.set_cons_succ, List.set_cons_zero] <;> rfl)))) | ((with_reducible refine Kx.store_gate ?_); first | (refine Kx.wpList_storewa_x HB rfl rfl _ _ _ rfl _ rfl _ rfl _ (by rfl) (by simp <;> rfl) (by rfl) ?_; clear HB; intro w_ HB) | (refine Kx.wpList_storea_x HB rfl rfl _ _ _ rfl _ rfl _ rfl _ _ (by simp [Kx.splice] <;> rfl) (by simp) (by simp <;> rfl) (by rfl) ?_; clear HB; intro w_ HB) | (refine Kx.wpList_storec_x HB rfl rfl _ _ _ rfl _ rfl rfl _ _ (by simp <;> rfl) (by simp) (by simp <;> rfl) ?_; clear HB; intro w_ HB) | (refine Kx.wpList_storet_x HB rfl rfl _ _ _ rfl _ rfl _ rfl rfl _ _ (by simp <;> rfl) (by simp) (by simp <;> rfl) ?_; clear HB; intro w_ HB) | (refine Kx.wpList_store1_x HB rfl rfl _ _ _ rfl _ rfl _ rfl rfl _ _ (by simp <;> rfl) (by simp) (by simp <;> rfl) ?_; clear HB; intro w_ HB))))
  rcases HO.out with rfl | ⟨rfl, rfl⟩
  · clear HO
    refine Kx.region_x HB (fun i => false) (by kernel_rfl) ?_
    refine anyW_take (i := 0) (v := ?v0_227) (a' := ?a0_227) (by first | exact Kx.bears_x | assumption) rfl (by kernel_rfl) (by kernel_rfl) (by kernel_rfl) (fun _ _ _ h => h) (by kernel_rfl) ?w0_227 ?y0_227 ?f0_227 ?r0_227
    case w0_227 => kernel_rfl
    case y0_227 => (intro w hC; go_simp; try with_reducible rfl)
    case f0_227 => (go_simp; try with_reducible rfl)
    refine anyW_take (i := 1) (v := ?v1_228) (a' := ?a1_228) (by first | exact Kx.bears_x | assumption) rfl (by kernel_rfl) (by kernel_rfl) (by kernel_rfl) (fun _ _ _ h => h) (by kernel_rfl) ?w1_228 ?y1_228 ?f1_228 ?r1_228
    case w1_228 => kernel_rfl
    case y1_228 => (intro w hC; go_simp; try with_reducible rfl)
    case f1_228 => (go_simp; try with_reducible rfl)
    refine anyW_take (i := 2) (v := ?v2_229) (a' := ?a2_229) (by first | exact Kx.bears_x | assumption) rfl (by kernel_rfl) (by kernel_rfl) (by kernel_rfl) (fun _ _ _ h => h) (by kernel_rfl) ?w2_229 ?y2_229 ?f2_229 ?r2_229
    case w2_229 => kernel_rfl
    case y2_229 => (intro w hC; go_simp; try with_reducible rfl)
    case f2_229 => (go_simp; try with_reducible rfl)
    refine anyW_take (i := 3) (v := ?v3_230) (a' := ?a3_230) (by first | exact Kx.bears_x | assumption) rfl (by kernel_rfl) (by kernel_rfl) (by kernel_rfl) (fun _ _ _ h => h) (by kernel_rfl) ?w3_230 ?y3_230 ?f3_230 ?r3_230
    case w3_230 => kernel_rfl
    case y3_230 => (intro w hC; go_simp; try with_reducible rfl)
    case f3_230 => (go_simp; try with_reducible rfl)
    refine anyW_skip (i := 4) (a' := ?a4_231) (by first | exact Kx.bears_x | assumption) rfl (by kernel_rfl) (by kernel_rfl) (by kernel_rfl) (fun _ _ _ h => h) (by kernel_rfl) (by kernel_rfl) ?f4_231 ?r4_231
    case f4_231 => (go_simp; try with_reducible rfl)
    refine anyW_skip (i := 5) (a' := ?a5_232) (by first | exact Kx.bears_x | assumption) rfl (by kernel_rfl) (by kernel_rfl) (by kernel_rfl) (fun _ _ _ h => h) (by kernel_rfl) (by kernel_rfl) ?f5_232 ?r5_232
    case f5_232 => (go_simp; try with_reducible rfl)
    refine anyW_skip (i := 6) (a' := ?a6_233) (by first | exact Kx.bears_x | assumption) rfl (by kernel_rfl) (by kernel_rfl) (by kernel_rfl) (fun _ _ _ h => h) (by kernel_rfl) (by kernel_rfl) ?f6_233 ?r6_233
    case f6_233 => (go_simp; try with_reducible rfl)
    refine anyW_take (i := 7) (v := ?v7_234) (a' := ?a7_234) (by first | exact Kx.bears_x | assumption) rfl (by kernel_rfl) (by kernel_rfl) (by kernel_rfl) (fun _ _ _ h => h) (by kernel_rfl) ?w7_234 ?y7_234 ?f7_234 ?r7_234
    case w7_234 => kernel_rfl
    case y7_234 => (intro w hC; go_simp; try with_reducible rfl)
    case f7_234 => (go_simp; try with_reducible rfl)
    refine anyW_take (i := 8) (v := ?v8_235) (a' := ?a8_235) (by first | exact Kx.bears_x | assumption) rfl (by kernel_rfl) (by kernel_rfl) (by kernel_rfl) (fun _ _ _ h => h) (by kernel_rfl) ?w8_235 ?y8_235 ?f8_235 ?r8_235
    case w8_235 => kernel_rfl
    case y8_235 => (intro w hC; go_simp; try with_reducible rfl)
    case f8_235 => (go_simp; try with_reducible rfl)
    refine anyW_take (i := 9) (v := ?v9_236) (a' := ?a9_236) (by first | exact Kx.bears_x | assumption) rfl (by kernel_rfl) (by kernel_rfl) (by kernel_rfl) (fun _ _ _ h => h) (by kernel_rfl) ?w9_236 ?y9_236 ?f9_236 ?r9_236
    case w9_236 => kernel_rfl
    case y9_236 => (intro w hC; go_simp; try with_reducible rfl)
    case f9_236 => (go_simp; try with_reducible rfl)
    refine anyW_take (i := 10) (v := ?v10_237) (a' := ?a10_237) (by first | exact Kx.bears_x | assumption) rfl (by kernel_rfl) (by kernel_rfl) (by kernel_rfl) (fun _ _ _ h => h) (by kernel_rfl) ?w10_237 ?y10_237 ?f10_237 ?r10_237
    case w10_237 => kernel_rfl
    case y10_237 => (intro W hW; first | (refine Eq.trans (Kx.tells_load1_x hW _ _ rfl _ inferInstance (Try.isAgg4 _) rfl) ?_; with_reducible rfl) | (refine Eq.trans (Kx.tells_load1_x hW _ _ rfl _ inferInstance (Try.isAgg3 _) rfl) ?_; with_reducible rfl) | (refine Eq.trans (Kx.tells_load1_x hW _ _ rfl _ inferInstance (Try.isAgg2 _) rfl) ?_; with_reducible rfl) | (refine Eq.trans (Kx.tells_old_x hW _ rfl (Try.isAgg4 _) HC.out) ?_; with_reducible rfl) | (refine Eq.trans (Kx.tells_old_x hW _ rfl (Try.isAgg3 _) HC.out) ?_; with_reducible rfl) | (refine Eq.trans (Kx.tells_old_x hW _ rfl (Try.isAgg2 _) HC.out) ?_; with_reducible rfl) | (refine Eq.trans (Kx.tells_load_x hW _ _ rfl _ inferInstance _ (Try.isAgg25 _) (Try.sizeOf25 _) _ (by first | exact Kx.whole (by rfl) | (simp <;> rfl)) (by rfl) rfl) ?_; with_reducible rfl) | (refine Eq.trans (Kx.tells_load_x hW _ _ rfl _ inferInstance _ (Try.isAgg28 _) (Try.sizeOf28 _) _ (by first | exact Kx.whole (by rfl) | (simp <;> rfl)) (by rfl) rfl) ?_; with_reducible rfl))
    case f10_237 => (go_simp; try with_reducible rfl)
    refine anyW_take (i := 11) (v := ?v11_238) (a' := ?a11_238) (by first | exact Kx.bears_x | assumption) rfl (by kernel_rfl) (by kernel_rfl) (by kernel_rfl) (fun _ _ _ h => h) (by kernel_rfl) ?w11_238 ?y11_238 ?f11_238 ?r11_238
    case w11_238 => kernel_rfl
    case y11_238 => (intro W hW; first | (refine Eq.trans (Kx.tells_load1_x hW _ _ rfl _ inferInstance (Try.isAgg4 _) rfl) ?_; with_reducible rfl) | (refine Eq.trans (Kx.tells_load1_x hW _ _ rfl _ inferInstance (Try.isAgg3 _) rfl) ?_; with_reducible rfl) | (refine Eq.trans (Kx.tells_load1_x hW _ _ rfl _ inferInstance (Try.isAgg2 _) rfl) ?_; with_reducible rfl) | (refine Eq.trans (Kx.tells_old_x hW _ rfl (Try.isAgg4 _) HC.out) ?_; with_reducible rfl) | (refine Eq.trans (Kx.tells_old_x hW _ rfl (Try.isAgg3 _) HC.out) ?_; with_reducible rfl) | (refine Eq.trans (Kx.tells_old_x hW _ rfl (Try.isAgg2 _) HC.out) ?_; with_reducible rfl) | (refine Eq.trans (Kx.tells_load_x hW _ _ rfl _ inferInstance _ (Try.isAgg25 _) (Try.sizeOf25 _) _ (by first | exact Kx.whole (by rfl) | (simp <;> rfl)) (by rfl) rfl) ?_; with_reducible rfl) | (refine Eq.trans (Kx.tells_load_x hW _ _ rfl _ inferInstance _ (Try.isAgg28 _) (Try.sizeOf28 _) _ (by first | exact Kx.whole (by rfl) | (simp <;> rfl)) (by rfl) rfl) ?_; with_reducible rfl))
    case f11_238 => (go_simp; try with_reducible rfl)
    refine anyW_call (i := 12) (v := ?v12_239) (f := ?g12_239) (args := ?s12_239) (a' := ?a12_239) (by first | exact Kx.bears_x | assumption) rfl (by kernel_rfl) (by kernel_rfl) (by kernel_rfl) (fun _ _ _ h => h) (by kernel_rfl) ?c12_239 ?w12_239 ?y12_239 ?f12_239 ?r12_239
    case w12_239 => kernel_rfl
    case y12_239 => (intro W hW; go_simp; first | (refine ⟨?_, ?_⟩ <;> with_reducible rfl) | with_reducible rfl)
    case c12_239 => (intro W hW; refine Calls.mono (PSame_self ⟨_, _, _, _, ⟨_, _⟩⟩ _) ?_; rintro e w_ ⟨rfl, hb_⟩; refine ⟨?_, by first | exact hb_ | exact hb_ ▸ Below.refl _ _⟩; with_reducible rfl)
    case f12_239 => (go_simp; try with_reducible rfl)
    refine anyW_take (i := 13) (v := ?v13_240) (a' := ?a13_240) (by first | exact Kx.bears_x | assumption) rfl (by kernel_rfl) (by kernel_rfl) (by kernel_rfl) (fun _ _ _ h => h) (by kernel_rfl) ?w13_240 ?y13_240 ?f13_240 ?r13_240
    case w13_240 => kernel_rfl
    case y13_240 => (intro w hC; go_simp; try with_reducible rfl)
    case f13_240 => (go_simp; try with_reducible rfl)
    refine anyW_take (i := 14) (v := ?v14_241) (a' := ?a14_241) (by first | exact Kx.bears_x | assumption) rfl (by kernel_rfl) (by kernel_rfl) (by kernel_rfl) (fun _ _ _ h => h) (by kernel_rfl) ?w14_241 ?y14_241 ?f14_241 ?r14_241
    case w14_241 => kernel_rfl
    case y14_241 => (intro w hC; go_simp; try with_reducible rfl)
    case f14_241 => (go_simp; try with_reducible rfl)
    refine anyW_take (i := 15) (v := ?v15_242) (a' := ?a15_242) (by first | exact Kx.bears_x | assumption) rfl (by kernel_rfl) (by kernel_rfl) (by kernel_rfl) (fun _ _ _ h => h) (by kernel_rfl) ?w15_242 ?y15_242 ?f15_242 ?r15_242
    case w15_242 => kernel_rfl
    case y15_242 => (intro W hW; first | (refine Eq.trans (Kx.tells_load1_x hW _ _ rfl _ inferInstance (Try.isAgg4 _) rfl) ?_; with_reducible rfl) | (refine Eq.trans (Kx.tells_load1_x hW _ _ rfl _ inferInstance (Try.isAgg3 _) rfl) ?_; with_reducible rfl) | (refine Eq.trans (Kx.tells_load1_x hW _ _ rfl _ inferInstance (Try.isAgg2 _) rfl) ?_; with_reducible rfl) | (refine Eq.trans (Kx.tells_old_x hW _ rfl (Try.isAgg4 _) HC.out) ?_; with_reducible rfl) | (refine Eq.trans (Kx.tells_old_x hW _ rfl (Try.isAgg3 _) HC.out) ?_; with_reducible rfl) | (refine Eq.trans (Kx.tells_old_x hW _ rfl (Try.isAgg2 _) HC.out) ?_; with_reducible rfl) | (refine Eq.trans (Kx.tells_load_x hW _ _ rfl _ inferInstance _ (Try.isAgg25 _) (Try.sizeOf25 _) _ (by first | exact Kx.whole (by rfl) | (simp <;> rfl)) (by rfl) rfl) ?_; with_reducible rfl) | (refine Eq.trans (Kx.tells_load_x hW _ _ rfl _ inferInstance _ (Try.isAgg28 _) (Try.sizeOf28 _) _ (by first | exact Kx.whole (by rfl) | (simp <;> rfl)) (by rfl) rfl) ?_; with_reducible rfl))
    case f15_242 => (go_simp; try with_reducible rfl)
    refine anyW_take (i := 16) (v := ?v16_243) (a' := ?a16_243) (by first | exact Kx.bears_x | assumption) rfl (by kernel_rfl) (by kernel_rfl) (by kernel_rfl) (fun _ _ _ h => h) (by kernel_rfl) ?w16_243 ?y16_243 ?f16_243 ?r16_243
    case w16_243 => kernel_rfl
    case y16_243 => (intro W hW; first | (refine Eq.trans (Kx.tells_load1_x hW _ _ rfl _ inferInstance (Try.isAgg4 _) rfl) ?_; with_reducible rfl) | (refine Eq.trans (Kx.tells_load1_x hW _ _ rfl _ inferInstance (Try.isAgg3 _) rfl) ?_; with_reducible rfl) | (refine Eq.trans (Kx.tells_load1_x hW _ _ rfl _ inferInstance (Try.isAgg2 _) rfl) ?_; with_reducible rfl) | (refine Eq.trans (Kx.tells_old_x hW _ rfl (Try.isAgg4 _) HC.out) ?_; with_reducible rfl) | (refine Eq.trans (Kx.tells_old_x hW _ rfl (Try.isAgg3 _) HC.out) ?_; with_reducible rfl) | (refine Eq.trans (Kx.tells_old_x hW _ rfl (Try.isAgg2 _) HC.out) ?_; with_reducible rfl) | (refine Eq.trans (Kx.tells_load_x hW _ _ rfl _ inferInstance _ (Try.isAgg25 _) (Try.sizeOf25 _) _ (by first | exact Kx.whole (by rfl) | (simp <;> rfl)) (by rfl) rfl) ?_; with_reducible rfl) | (refine Eq.trans (Kx.tells_load_x hW _ _ rfl _ inferInstance _ (Try.isAgg28 _) (Try.sizeOf28 _) _ (by first | exact Kx.whole (by rfl) | (simp <;> rfl)) (by rfl) rfl) ?_; with_reducible rfl))
    case f16_243 => (go_simp; try with_reducible rfl)
    refine anyW_take (i := 17) (v := ?v17_244) (a' := ?a17_244) (by first | exact Kx.bears_x | assumption) rfl (by kernel_rfl) (by kernel_rfl) (by kernel_rfl) (fun _ _ _ h => h) (by kernel_rfl) ?w17_244 ?y17_244 ?f17_244 ?r17_244
    case w17_244 => kernel_rfl
    case y17_244 => (intro w hC; go_simp; try with_reducible rfl)
    case f17_244 => (go_simp; try with_reducible rfl)
    refine anyW_take (i := 18) (v := ?v18_245) (a' := ?a18_245) (by first | exact Kx.bears_x | assumption) rfl (by kernel_rfl) (by kernel_rfl) (by kernel_rfl) (fun _ _ _ h => h) (by kernel_rfl) ?w18_245 ?y18_245 ?f18_245 ?r18_245
    case w18_245 => kernel_rfl
    case y18_245 => (intro W hW; first | (refine Eq.trans (Kx.tells_load1_x hW _ _ rfl _ inferInstance (Try.isAgg4 _) rfl) ?_; with_reducible rfl) | (refine Eq.trans (Kx.tells_load1_x hW _ _ rfl _ inferInstance (Try.isAgg3 _) rfl) ?_; with_reducible rfl) | (refine Eq.trans (Kx.tells_load1_x hW _ _ rfl _ inferInstance (Try.isAgg2 _) rfl) ?_; with_reducible rfl) | (refine Eq.trans (Kx.tells_old_x hW _ rfl (Try.isAgg4 _) HC.out) ?_; with_reducible rfl) | (refine Eq.trans (Kx.tells_old_x hW _ rfl (Try.isAgg3 _) HC.out) ?_; with_reducible rfl) | (refine Eq.trans (Kx.tells_old_x hW _ rfl (Try.isAgg2 _) HC.out) ?_; with_reducible rfl) | (refine Eq.trans (Kx.tells_load_x hW _ _ rfl _ inferInstance _ (Try.isAgg25 _) (Try.sizeOf25 _) _ (by first | exact Kx.whole (by rfl) | (simp <;> rfl)) (by rfl) rfl) ?_; with_reducible rfl) | (refine Eq.trans (Kx.tells_load_x hW _ _ rfl _ inferInstance _ (Try.isAgg28 _) (Try.sizeOf28 _) _ (by first | exact Kx.whole (by rfl) | (simp <;> rfl)) (by rfl) rfl) ?_; with_reducible rfl))
    case f18_245 => (go_simp; try with_reducible rfl)
    refine anyW_call (i := 19) (v := ?v19_246) (f := ?g19_246) (args := ?s19_246) (a' := ?a19_246) (by first | exact Kx.bears_x | assumption) rfl (by kernel_rfl) (by kernel_rfl) (by kernel_rfl) (fun _ _ _ h => h) (by kernel_rfl) ?c19_246 ?w19_246 ?y19_246 ?f19_246 ?r19_246
    case w19_246 => kernel_rfl
    case y19_246 => (intro W hW; go_simp; first | (refine ⟨?_, ?_⟩ <;> with_reducible rfl) | with_reducible rfl)
    case c19_246 => (intro W hW; refine Calls.mono (HA2.out _) ?_; rintro e w_ ⟨rfl, hb_⟩; refine ⟨?_, by first | exact hb_ | exact hb_ ▸ Below.refl _ _⟩; with_reducible rfl)
    case f19_246 => (go_simp; try with_reducible rfl)
    refine anyW_take (i := 20) (v := ?v20_247) (a' := ?a20_247) (by first | exact Kx.bears_x | assumption) rfl (by kernel_rfl) (by kernel_rfl) (by kernel_rfl) (fun _ _ _ h => h) (by kernel_rfl) ?w20_247 ?y20_247 ?f20_247 ?r20_247
    case w20_247 => kernel_rfl
    case y20_247 => (intro W hW; first | (refine Eq.trans (Kx.tells_load1_x hW _ _ rfl _ inferInstance (Try.isAgg4 _) rfl) ?_; with_reducible rfl) | (refine Eq.trans (Kx.tells_load1_x hW _ _ rfl _ inferInstance (Try.isAgg3 _) rfl) ?_; with_reducible rfl) | (refine Eq.trans (Kx.tells_load1_x hW _ _ rfl _ inferInstance (Try.isAgg2 _) rfl) ?_; with_reducible rfl) | (refine Eq.trans (Kx.tells_old_x hW _ rfl (Try.isAgg4 _) HC.out) ?_; with_reducible rfl) | (refine Eq.trans (Kx.tells_old_x hW _ rfl (Try.isAgg3 _) HC.out) ?_; with_reducible rfl) | (refine Eq.trans (Kx.tells_old_x hW _ rfl (Try.isAgg2 _) HC.out) ?_; with_reducible rfl) | (refine Eq.trans (Kx.tells_load_x hW _ _ rfl _ inferInstance _ (Try.isAgg25 _) (Try.sizeOf25 _) _ (by first | exact Kx.whole (by rfl) | (simp <;> rfl)) (by rfl) rfl) ?_; with_reducible rfl) | (refine Eq.trans (Kx.tells_load_x hW _ _ rfl _ inferInstance _ (Try.isAgg28 _) (Try.sizeOf28 _) _ (by first | exact Kx.whole (by rfl) | (simp <;> rfl)) (by rfl) rfl) ?_; with_reducible rfl))
    case f20_247 => (go_simp; try with_reducible rfl)
    refine anyW_call (i := 21) (v := ?v21_248) (f := ?g21_248) (args := ?s21_248) (a' := ?a21_248) (by first | exact Kx.bears_x | assumption) rfl (by kernel_rfl) (by kernel_rfl) (by kernel_rfl) (fun _ _ _ h => h) (by kernel_rfl) ?c21_248 ?w21_248 ?y21_248 ?f21_248 ?r21_248
    case w21_248 => kernel_rfl
    case y21_248 => (intro W hW; go_simp; first | (refine ⟨?_, ?_⟩ <;> with_reducible rfl) | with_reducible rfl)
    case c21_248 => (intro W hW; refine Calls.mono (HS.out _) ?_; rintro e w_ ⟨rfl, hb_⟩; refine ⟨?_, by first | exact hb_ | exact hb_ ▸ Below.refl _ _⟩; with_reducible rfl)
    case f21_248 => (go_simp; try with_reducible rfl)
    refine anyW_take (i := 22) (v := ?v22_249) (a' := ?a22_249) (by first | exact Kx.bears_x | assumption) rfl (by kernel_rfl) (by kernel_rfl) (by kernel_rfl) (fun _ _ _ h => h) (by kernel_rfl) ?w22_249 ?y22_249 ?f22_249 ?r22_249
    case w22_249 => kernel_rfl
    case y22_249 => (intro w hC; go_simp; try with_reducible rfl)
    case f22_249 => (go_simp; try with_reducible rfl)
    refine anyW_take (i := 23) (v := ?v23_250) (a' := ?a23_250) (by first | exact Kx.bears_x | assumption) rfl (by kernel_rfl) (by kernel_rfl) (by kernel_rfl) (fun _ _ _ h => h) (by kernel_rfl) ?w23_250 ?y23_250 ?f23_250 ?r23_250
    case w23_250 => kernel_rfl
    case y23_250 => (intro w hC; go_simp; try with_reducible rfl)
    case f23_250 => (go_simp; try with_reducible rfl)
    refine anyW_done (by kernel_rfl) ?_
    clear HB
    intro w_ HB_
    have HB := Lib.hid HB_
    clear HB_
    go_wp2
    go_ret
    exact ⟨rfl, HB.out.below⟩
  · clear HO
    refine Kx.region_x HB (fun i => false) (by kernel_rfl) ?_
    refine anyW_take (i := 0) (v := ?v0_251) (a' := ?a0_251) (by first | exact Kx.bears_x | assumption) rfl (by kernel_rfl) (by kernel_rfl) (by kernel_rfl) (fun _ _ _ h => h) (by kernel_rfl) ?w0_251 ?y0_251 ?f0_251 ?r0_251
    case w0_251 => kernel_rfl
    case y0_251 => (intro w hC; go_simp; try with_reducible rfl)
    case f0_251 => (go_simp; try with_reducible rfl)
    refine anyW_take (i := 1) (v := ?v1_252) (a' := ?a1_252) (by first | exact Kx.bears_x | assumption) rfl (by kernel_rfl) (by kernel_rfl) (by kernel_rfl) (fun _ _ _ h => h) (by kernel_rfl) ?w1_252 ?y1_252 ?f1_252 ?r1_252
    case w1_252 => kernel_rfl
    case y1_252 => (intro w hC; go_simp; try with_reducible rfl)
    case f1_252 => (go_simp; try with_reducible rfl)
    refine anyW_take (i := 2) (v := ?v2_253) (a' := ?a2_253) (by first | exact Kx.bears_x | assumption) rfl (by kernel_rfl) (by kernel_rfl) (by kernel_rfl) (fun _ _ _ h => h) (by kernel_rfl) ?w2_253 ?y2_253 ?f2_253 ?r2_253
    case w2_253 => kernel_rfl
    case y2_253 => (intro w hC; go_simp; try with_reducible rfl)
    case f2_253 => (go_simp; try with_reducible rfl)
    refine anyW_take (i := 3) (v := ?v3_254) (a' := ?a3_254) (by first | exact Kx.bears_x | assumption) rfl (by kernel_rfl) (by kernel_rfl) (by kernel_rfl) (fun _ _ _ h => h) (by kernel_rfl) ?w3_254 ?y3_254 ?f3_254 ?r3_254
    case w3_254 => kernel_rfl
    case y3_254 => (intro w hC; go_simp; try with_reducible rfl)
    case f3_254 => (go_simp; try with_reducible rfl)
    refine anyW_take (i := 4) (v := ?v4_255) (a' := ?a4_255) (by first | exact Kx.bears_x | assumption) rfl (by kernel_rfl) (by kernel_rfl) (by kernel_rfl) (fun _ _ _ h => h) (by kernel_rfl) ?w4_255 ?y4_255 ?f4_255 ?r4_255
    case w4_255 => kernel_rfl
    case y4_255 => (intro w hC; go_simp; try with_reducible rfl)
    case f4_255 => (go_simp; try with_reducible rfl)
    refine anyW_take (i := 5) (v := ?v5_256) (a' := ?a5_256) (by first | exact Kx.bears_x | assumption) rfl (by kernel_rfl) (by kernel_rfl) (by kernel_rfl) (fun _ _ _ h => h) (by kernel_rfl) ?w5_256 ?y5_256 ?f5_256 ?r5_256
    case w5_256 => kernel_rfl
    case y5_256 => (intro W hW; first | (refine Eq.trans (Kx.tells_load1_x hW _ _ rfl _ inferInstance (Try.isAgg4 _) rfl) ?_; with_reducible rfl) | (refine Eq.trans (Kx.tells_load1_x hW _ _ rfl _ inferInstance (Try.isAgg3 _) rfl) ?_; with_reducible rfl) | (refine Eq.trans (Kx.tells_load1_x hW _ _ rfl _ inferInstance (Try.isAgg2 _) rfl) ?_; with_reducible rfl) | (refine Eq.trans (Kx.tells_old_x hW _ rfl (Try.isAgg4 _) HC.out) ?_; with_reducible rfl) | (refine Eq.trans (Kx.tells_old_x hW _ rfl (Try.isAgg3 _) HC.out) ?_; with_reducible rfl) | (refine Eq.trans (Kx.tells_old_x hW _ rfl (Try.isAgg2 _) HC.out) ?_; with_reducible rfl) | (refine Eq.trans (Kx.tells_load_x hW _ _ rfl _ inferInstance _ (Try.isAgg25 _) (Try.sizeOf25 _) _ (by first | exact Kx.whole (by rfl) | (simp <;> rfl)) (by rfl) rfl) ?_; with_reducible rfl) | (refine Eq.trans (Kx.tells_load_x hW _ _ rfl _ inferInstance _ (Try.isAgg28 _) (Try.sizeOf28 _) _ (by first | exact Kx.whole (by rfl) | (simp <;> rfl)) (by rfl) rfl) ?_; with_reducible rfl))
    case f5_256 => (go_simp; try with_reducible rfl)
    refine anyW_take (i := 6) (v := ?v6_257) (a' := ?a6_257) (by first | exact Kx.bears_x | assumption) rfl (by kernel_rfl) (by kernel_rfl) (by kernel_rfl) (fun _ _ _ h => h) (by kernel_rfl) ?w6_257 ?y6_257 ?f6_257 ?r6_257
    case w6_257 => kernel_rfl
    case y6_257 => (intro w hC; go_simp; try with_reducible rfl)
    case f6_257 => (go_simp; try with_reducible rfl)
    refine anyW_take (i := 7) (v := ?v7_258) (a' := ?a7_258) (by first | exact Kx.bears_x | assumption) rfl (by kernel_rfl) (by kernel_rfl) (by kernel_rfl) (fun _ _ _ h => h) (by kernel_rfl) ?w7_258 ?y7_258 ?f7_258 ?r7_258
    case w7_258 => kernel_rfl
    case y7_258 => (intro w hC; go_simp; try with_reducible rfl)
    case f7_258 => (go_simp; try with_reducible rfl)
    refine anyW_take (i := 8) (v := ?v8_259) (a' := ?a8_259) (by first | exact Kx.bears_x | assumption) rfl (by kernel_rfl) (by kernel_rfl) (by kernel_rfl) (fun _ _ _ h => h) (by kernel_rfl) ?w8_259 ?y8_259 ?f8_259 ?r8_259
    case w8_259 => kernel_rfl
    case y8_259 => (intro w hC; go_simp; try with_reducible rfl)
    case f8_259 => (go_simp; try with_reducible rfl)
    refine anyW_take (i := 9) (v := ?v9_260) (a' := ?a9_260) (by first | exact Kx.bears_x | assumption) rfl (by kernel_rfl) (by kernel_rfl) (by kernel_rfl) (fun _ _ _ h => h) (by kernel_rfl) ?w9_260 ?y9_260 ?f9_260 ?r9_260
    case w9_260 => kernel_rfl
    case y9_260 => (intro w hC; go_simp; try with_reducible rfl)
    case f9_260 => (go_simp; try with_reducible rfl)
    refine anyW_take (i := 10) (v := ?v10_261) (a' := ?a10_261) (by first | exact Kx.bears_x | assumption) rfl (by kernel_rfl) (by kernel_rfl) (by kernel_rfl) (fun _ _ _ h => h) (by kernel_rfl) ?w10_261 ?y10_261 ?f10_261 ?r10_261
    case w10_261 => kernel_rfl
    case y10_261 => (intro W hW; first | (refine Eq.trans (Kx.tells_load1_x hW _ _ rfl _ inferInstance (Try.isAgg4 _) rfl) ?_; with_reducible rfl) | (refine Eq.trans (Kx.tells_load1_x hW _ _ rfl _ inferInstance (Try.isAgg3 _) rfl) ?_; with_reducible rfl) | (refine Eq.trans (Kx.tells_load1_x hW _ _ rfl _ inferInstance (Try.isAgg2 _) rfl) ?_; with_reducible rfl) | (refine Eq.trans (Kx.tells_old_x hW _ rfl (Try.isAgg4 _) HC.out) ?_; with_reducible rfl) | (refine Eq.trans (Kx.tells_old_x hW _ rfl (Try.isAgg3 _) HC.out) ?_; with_reducible rfl) | (refine Eq.trans (Kx.tells_old_x hW _ rfl (Try.isAgg2 _) HC.out) ?_; with_reducible rfl) | (refine Eq.trans (Kx.tells_load_x hW _ _ rfl _ inferInstance _ (Try.isAgg25 _) (Try.sizeOf25 _) _ (by first | exact Kx.whole (by rfl) | (simp <;> rfl)) (by rfl) rfl) ?_; with_reducible rfl) | (refine Eq.trans (Kx.tells_load_x hW _ _ rfl _ inferInstance _ (Try.isAgg28 _) (Try.sizeOf28 _) _ (by first | exact Kx.whole (by rfl) | (simp <;> rfl)) (by rfl) rfl) ?_; with_reducible rfl))
    case f10_261 => (go_simp; try with_reducible rfl)
    refine anyW_take (i := 11) (v := ?v11_262) (a' := ?a11_262) (by first | exact Kx.bears_x | assumption) rfl (by kernel_rfl) (by kernel_rfl) (by kernel_rfl) (fun _ _ _ h => h) (by kernel_rfl) ?w11_262 ?y11_262 ?f11_262 ?r11_262
    case w11_262 => kernel_rfl
    case y11_262 => (intro W hW; first | (refine Eq.trans (Kx.tells_load1_x hW _ _ rfl _ inferInstance (Try.isAgg4 _) rfl) ?_; with_reducible rfl) | (refine Eq.trans (Kx.tells_load1_x hW _ _ rfl _ inferInstance (Try.isAgg3 _) rfl) ?_; with_reducible rfl) | (refine Eq.trans (Kx.tells_load1_x hW _ _ rfl _ inferInstance (Try.isAgg2 _) rfl) ?_; with_reducible rfl) | (refine Eq.trans (Kx.tells_old_x hW _ rfl (Try.isAgg4 _) HC.out) ?_; with_reducible rfl) | (refine Eq.trans (Kx.tells_old_x hW _ rfl (Try.isAgg3 _) HC.out) ?_; with_reducible rfl) | (refine Eq.trans (Kx.tells_old_x hW _ rfl (Try.isAgg2 _) HC.out) ?_; with_reducible rfl) | (refine Eq.trans (Kx.tells_load_x hW _ _ rfl _ inferInstance _ (Try.isAgg25 _) (Try.sizeOf25 _) _ (by first | exact Kx.whole (by rfl) | (simp <;> rfl)) (by rfl) rfl) ?_; with_reducible rfl) | (refine Eq.trans (Kx.tells_load_x hW _ _ rfl _ inferInstance _ (Try.isAgg28 _) (Try.sizeOf28 _) _ (by first | exact Kx.whole (by rfl) | (simp <;> rfl)) (by rfl) rfl) ?_; with_reducible rfl))
    case f11_262 => (go_simp; try with_reducible rfl)
    refine anyW_call (i := 12) (v := ?v12_263) (f := ?g12_263) (args := ?s12_263) (a' := ?a12_263) (by first | exact Kx.bears_x | assumption) rfl (by kernel_rfl) (by kernel_rfl) (by kernel_rfl) (fun _ _ _ h => h) (by kernel_rfl) ?c12_263 ?w12_263 ?y12_263 ?f12_263 ?r12_263
    case w12_263 => kernel_rfl
    case y12_263 => (intro W hW; go_simp; first | (refine ⟨?_, ?_⟩ <;> with_reducible rfl) | with_reducible rfl)
    case c12_263 => (intro W hW; refine Calls.mono (PSame_self ⟨_, _, _, _, ⟨_, _⟩⟩ _) ?_; rintro e w_ ⟨rfl, hb_⟩; refine ⟨?_, by first | exact hb_ | exact hb_ ▸ Below.refl _ _⟩; with_reducible rfl)
    case f12_263 => (go_simp; try with_reducible rfl)
    refine anyW_take (i := 13) (v := ?v13_264) (a' := ?a13_264) (by first | exact Kx.bears_x | assumption) rfl (by kernel_rfl) (by kernel_rfl) (by kernel_rfl) (fun _ _ _ h => h) (by kernel_rfl) ?w13_264 ?y13_264 ?f13_264 ?r13_264
    case w13_264 => kernel_rfl
    case y13_264 => (intro w hC; go_simp; try with_reducible rfl)
    case f13_264 => (go_simp; try with_reducible rfl)
    refine anyW_take (i := 14) (v := ?v14_265) (a' := ?a14_265) (by first | exact Kx.bears_x | assumption) rfl (by kernel_rfl) (by kernel_rfl) (by kernel_rfl) (fun _ _ _ h => h) (by kernel_rfl) ?w14_265 ?y14_265 ?f14_265 ?r14_265
    case w14_265 => kernel_rfl
    case y14_265 => (intro w hC; go_simp; try with_reducible rfl)
    case f14_265 => (go_simp; try with_reducible rfl)
    refine anyW_take (i := 15) (v := ?v15_266) (a' := ?a15_266) (by first | exact Kx.bears_x | assumption) rfl (by kernel_rfl) (by kernel_rfl) (by kernel_rfl) (fun _ _ _ h => h) (by kernel_rfl) ?w15_266 ?y15_266 ?f15_266 ?r15_266
    case w15_266 => kernel_rfl
    case y15_266 => (intro W hW; first | (refine Eq.trans (Kx.tells_load1_x hW _ _ rfl _ inferInstance (Try.isAgg4 _) rfl) ?_; with_reducible rfl) | (refine Eq.trans (Kx.tells_load1_x hW _ _ rfl _ inferInstance (Try.isAgg3 _) rfl) ?_; with_reducible rfl) | (refine Eq.trans (Kx.tells_load1_x hW _ _ rfl _ inferInstance (Try.isAgg2 _) rfl) ?_; with_reducible rfl) | (refine Eq.trans (Kx.tells_old_x hW _ rfl (Try.isAgg4 _) HC.out) ?_; with_reducible rfl) | (refine Eq.trans (Kx.tells_old_x hW _ rfl (Try.isAgg3 _) HC.out) ?_; with_reducible rfl) | (refine Eq.trans (Kx.tells_old_x hW _ rfl (Try.isAgg2 _) HC.out) ?_; with_reducible rfl) | (refine Eq.trans (Kx.tells_load_x hW _ _ rfl _ inferInstance _ (Try.isAgg25 _) (Try.sizeOf25 _) _ (by first | exact Kx.whole (by rfl) | (simp <;> rfl)) (by rfl) rfl) ?_; with_reducible rfl) | (refine Eq.trans (Kx.tells_load_x hW _ _ rfl _ inferInstance _ (Try.isAgg28 _) (Try.sizeOf28 _) _ (by first | exact Kx.whole (by rfl) | (simp <;> rfl)) (by rfl) rfl) ?_; with_reducible rfl))
    case f15_266 => (go_simp; try with_reducible rfl)
    refine anyW_take (i := 16) (v := ?v16_267) (a' := ?a16_267) (by first | exact Kx.bears_x | assumption) rfl (by kernel_rfl) (by kernel_rfl) (by kernel_rfl) (fun _ _ _ h => h) (by kernel_rfl) ?w16_267 ?y16_267 ?f16_267 ?r16_267
    case w16_267 => kernel_rfl
    case y16_267 => (intro W hW; first | (refine Eq.trans (Kx.tells_load1_x hW _ _ rfl _ inferInstance (Try.isAgg4 _) rfl) ?_; with_reducible rfl) | (refine Eq.trans (Kx.tells_load1_x hW _ _ rfl _ inferInstance (Try.isAgg3 _) rfl) ?_; with_reducible rfl) | (refine Eq.trans (Kx.tells_load1_x hW _ _ rfl _ inferInstance (Try.isAgg2 _) rfl) ?_; with_reducible rfl) | (refine Eq.trans (Kx.tells_old_x hW _ rfl (Try.isAgg4 _) HC.out) ?_; with_reducible rfl) | (refine Eq.trans (Kx.tells_old_x hW _ rfl (Try.isAgg3 _) HC.out) ?_; with_reducible rfl) | (refine Eq.trans (Kx.tells_old_x hW _ rfl (Try.isAgg2 _) HC.out) ?_; with_reducible rfl) | (refine Eq.trans (Kx.tells_load_x hW _ _ rfl _ inferInstance _ (Try.isAgg25 _) (Try.sizeOf25 _) _ (by first | exact Kx.whole (by rfl) | (simp <;> rfl)) (by rfl) rfl) ?_; with_reducible rfl) | (refine Eq.trans (Kx.tells_load_x hW _ _ rfl _ inferInstance _ (Try.isAgg28 _) (Try.sizeOf28 _) _ (by first | exact Kx.whole (by rfl) | (simp <;> rfl)) (by rfl) rfl) ?_; with_reducible rfl))
    case f16_267 => (go_simp; try with_reducible rfl)
    refine anyW_take (i := 17) (v := ?v17_268) (a' := ?a17_268) (by first | exact Kx.bears_x | assumption) rfl (by kernel_rfl) (by kernel_rfl) (by kernel_rfl) (fun _ _ _ h => h) (by kernel_rfl) ?w17_268 ?y17_268 ?f17_268 ?r17_268
    case w17_268 => kernel_rfl
    case y17_268 => (intro w hC; go_simp; try with_reducible rfl)
    case f17_268 => (go_simp; try with_reducible rfl)
    refine anyW_take (i := 18) (v := ?v18_269) (a' := ?a18_269) (by first | exact Kx.bears_x | assumption) rfl (by kernel_rfl) (by kernel_rfl) (by kernel_rfl) (fun _ _ _ h => h) (by kernel_rfl) ?w18_269 ?y18_269 ?f18_269 ?r18_269
    case w18_269 => kernel_rfl
    case y18_269 => (intro W hW; first | (refine Eq.trans (Kx.tells_load1_x hW _ _ rfl _ inferInstance (Try.isAgg4 _) rfl) ?_; with_reducible rfl) | (refine Eq.trans (Kx.tells_load1_x hW _ _ rfl _ inferInstance (Try.isAgg3 _) rfl) ?_; with_reducible rfl) | (refine Eq.trans (Kx.tells_load1_x hW _ _ rfl _ inferInstance (Try.isAgg2 _) rfl) ?_; with_reducible rfl) | (refine Eq.trans (Kx.tells_old_x hW _ rfl (Try.isAgg4 _) HC.out) ?_; with_reducible rfl) | (refine Eq.trans (Kx.tells_old_x hW _ rfl (Try.isAgg3 _) HC.out) ?_; with_reducible rfl) | (refine Eq.trans (Kx.tells_old_x hW _ rfl (Try.isAgg2 _) HC.out) ?_; with_reducible rfl) | (refine Eq.trans (Kx.tells_load_x hW _ _ rfl _ inferInstance _ (Try.isAgg25 _) (Try.sizeOf25 _) _ (by first | exact Kx.whole (by rfl) | (simp <;> rfl)) (by rfl) rfl) ?_; with_reducible rfl) | (refine Eq.trans (Kx.tells_load_x hW _ _ rfl _ inferInstance _ (Try.isAgg28 _) (Try.sizeOf28 _) _ (by first | exact Kx.whole (by rfl) | (simp <;> rfl)) (by rfl) rfl) ?_; with_reducible rfl))
    case f18_269 => (go_simp; try with_reducible rfl)
    refine anyW_call (i := 19) (v := ?v19_270) (f := ?g19_270) (args := ?s19_270) (a' := ?a19_270) (by first | exact Kx.bears_x | assumption) rfl (by kernel_rfl) (by kernel_rfl) (by kernel_rfl) (fun _ _ _ h => h) (by kernel_rfl) ?c19_270 ?w19_270 ?y19_270 ?f19_270 ?r19_270
    case w19_270 => kernel_rfl
    case y19_270 => (intro W hW; go_simp; first | (refine ⟨?_, ?_⟩ <;> with_reducible rfl) | with_reducible rfl)
    case c19_270 => (intro W hW; refine Calls.mono (HA2.out _) ?_; rintro e w_ ⟨rfl, hb_⟩; refine ⟨?_, by first | exact hb_ | exact hb_ ▸ Below.refl _ _⟩; with_reducible rfl)
    case f19_270 => (go_simp; try with_reducible rfl)
    refine anyW_take (i := 20) (v := ?v20_271) (a' := ?a20_271) (by first | exact Kx.bears_x | assumption) rfl (by kernel_rfl) (by kernel_rfl) (by kernel_rfl) (fun _ _ _ h => h) (by kernel_rfl) ?w20_271 ?y20_271 ?f20_271 ?r20_271
    case w20_271 => kernel_rfl
    case y20_271 => (intro W hW; first | (refine Eq.trans (Kx.tells_load1_x hW _ _ rfl _ inferInstance (Try.isAgg4 _) rfl) ?_; with_reducible rfl) | (refine Eq.trans (Kx.tells_load1_x hW _ _ rfl _ inferInstance (Try.isAgg3 _) rfl) ?_; with_reducible rfl) | (refine Eq.trans (Kx.tells_load1_x hW _ _ rfl _ inferInstance (Try.isAgg2 _) rfl) ?_; with_reducible rfl) | (refine Eq.trans (Kx.tells_old_x hW _ rfl (Try.isAgg4 _) HC.out) ?_; with_reducible rfl) | (refine Eq.trans (Kx.tells_old_x hW _ rfl (Try.isAgg3 _) HC.out) ?_; with_reducible rfl) | (refine Eq.trans (Kx.tells_old_x hW _ rfl (Try.isAgg2 _) HC.out) ?_; with_reducible rfl) | (refine Eq.trans (Kx.tells_load_x hW _ _ rfl _ inferInstance _ (Try.isAgg25 _) (Try.sizeOf25 _) _ (by first | exact Kx.whole (by rfl) | (simp <;> rfl)) (by rfl) rfl) ?_; with_reducible rfl) | (refine Eq.trans (Kx.tells_load_x hW _ _ rfl _ inferInstance _ (Try.isAgg28 _) (Try.sizeOf28 _) _ (by first | exact Kx.whole (by rfl) | (simp <;> rfl)) (by rfl) rfl) ?_; with_reducible rfl))
    case f20_271 => (go_simp; try with_reducible rfl)
    refine anyW_call (i := 21) (v := ?v21_272) (f := ?g21_272) (args := ?s21_272) (a' := ?a21_272) (by first | exact Kx.bears_x | assumption) rfl (by kernel_rfl) (by kernel_rfl) (by kernel_rfl) (fun _ _ _ h => h) (by kernel_rfl) ?c21_272 ?w21_272 ?y21_272 ?f21_272 ?r21_272
    case w21_272 => kernel_rfl
    case y21_272 => (intro W hW; go_simp; first | (refine ⟨?_, ?_⟩ <;> with_reducible rfl) | with_reducible rfl)
    case c21_272 => (intro W hW; refine Calls.mono (HS.out _) ?_; rintro e w_ ⟨rfl, hb_⟩; refine ⟨?_, by first | exact hb_ | exact hb_ ▸ Below.refl _ _⟩; with_reducible rfl)
    case f21_272 => (go_simp; try with_reducible rfl)
    refine anyW_take (i := 22) (v := ?v22_273) (a' := ?a22_273) (by first | exact Kx.bears_x | assumption) rfl (by kernel_rfl) (by kernel_rfl) (by kernel_rfl) (fun _ _ _ h => h) (by kernel_rfl) ?w22_273 ?y22_273 ?f22_273 ?r22_273
    case w22_273 => kernel_rfl
    case y22_273 => (intro w hC; go_simp; try with_reducible rfl)
    case f22_273 => (go_simp; try with_reducible rfl)
    refine anyW_take (i := 23) (v := ?v23_274) (a' := ?a23_274) (by first | exact Kx.bears_x | assumption) rfl (by kernel_rfl) (by kernel_rfl) (by kernel_rfl) (fun _ _ _ h => h) (by kernel_rfl) ?w23_274 ?y23_274 ?f23_274 ?r23_274
    case w23_274 => kernel_rfl
    case y23_274 => (intro w hC; go_simp; try with_reducible rfl)
    case f23_274 => (go_simp; try with_reducible rfl)
    refine anyW_done (by kernel_rfl) ?_
    clear HB
    intro w_ HB_
    have HB := Lib.hid HB_
    clear HB_
    go_wp2
    go_ret
    exact ⟨rfl, HB.out.below⟩
end Go.Proofs.Ytijbdkeefaaeeaa
