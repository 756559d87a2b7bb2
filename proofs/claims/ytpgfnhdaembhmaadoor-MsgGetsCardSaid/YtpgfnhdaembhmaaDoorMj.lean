/- What a body's reader reads, further: the numbers, the plan: the program's. -/
import Derived.Test.YtpgfnhdaembhmaaDoorMi
namespace Go.Proofs.YtpgfnhdaembhmaaDoor
open Go.RowKit Go.Shelf

/-- a whole value into a block, as one operation of a region -/
theorem op_store_mid {P : Program} {op : Oper} {a : Act} {w : World} {K : Act → World → Prop} {Q : Exit → Act → World → Prop} (ty : TypeId) (x y : Operand) (ho : op.op = .store ty x y)
    (b o : Nat) (cells : Array Value) (hx : a.eval x = .pointer (some ⟨b, o, none⟩)) (hy : a.eval y = .agg cells) (ht : w.there b o cells.size) (hi : (P.info? ty).map (·.size) = some cells.size) (h1 : cells.all (·.oneCell') = true)
    (h : K (a.put op.dst undef) (w.setCells b o cells.toList)) : op.wp P a w K Q := wp_store_mid ty x y ho b o cells hx hy ht hi h1 h
theorem rangeAt_grown {w w' : World} {b b' o : Nat} {cs : List Value} (h : w.rangeAt b o cs) (hg : w.grownBy w' (some b')) (hb : b' ≠ b) (hlt : b < w.heap.size) : w'.rangeAt b o cs := fun j v hv => by
  rw [World.cell?_of_block (hg.block b hlt (fun e => hb (by injection e with e; exact e.symm)))]; exact h j v hv
theorem there_grown {w w' : World} {b b' o n : Nat} (h : w.there b o n) (hg : w.grownBy w' (some b')) (hb : b' ≠ b) (hlt : b < w.heap.size) : w'.there b o n := fun j hj => by
  rw [World.cell?_of_block (hg.block b hlt (fun e => hb (by injection e with e; exact e.symm))), World.frozen?_of_block (hg.block b hlt (fun e => hb (by injection e with e; exact e.symm)))]; exact h j hj

/-- what is written into a block made since is nothing to the old world -/
theorem grown_then {w w' w'' : World} {row : Option Nat} {b : Nat} (h : w.grownBy w' row) (hg : w'.grownBy w'' (some b)) (hb : w.heap.size ≤ b) : w.grownBy w'' row :=
  ⟨hg.os.trans h.os, hg.tape.trans h.tape, hg.output.trans h.output, Nat.le_trans h.size hg.size, fun k hk hne => (hg.block k (Nat.lt_of_lt_of_le hk h.size) (fun e => by injection e with e; omega)).trans (h.block k hk hne)⟩

set_option maxRecDepth 100000 in
set_option maxHeartbeats 4000000 in
theorem readN_any (g : Nat) (A : Option Addr) (n cap B : Nat) (xs : List Int) (at_ err : Int) (w : World) (hr : Rdr w g A n cap at_ err) (hg : B ≤ g) (hgw : g < w.heap.size) (hx : Rd w B A (u8s xs)) (hn : xs.length = n) (hnc : n ≤ cap) (hcap : cap ≤ maxLen) (hb : Fm.By xs)
    (hat : err = 0 → -9223372036854775808 ≤ at_ ∧ at_ ≤ 9223372036854775807) :
    Calls Tryd.prog 38 #[.pointer (some ⟨g, 0, none⟩), .func (.func 39) #[] #[]] w fun e w' => e = .returned (.agg (i64s (Mm.thenR Mm.zeros (at_, err) (Mm.rN xs)).1).toArray) ∧
      Rdr w' g A n cap (Mm.thenR Mm.zeros (at_, err) (Mm.rN xs)).2.1 (Mm.thenR Mm.zeros (at_, err) (Mm.rN xs)).2.2 ∧ w.grownBy w' (some g) := by
  have hz1 : (w.alloc (.cells (i64s Mm.zeros).toArray 49)).heap.size = w.heap.size + 1 := World.size_alloc ..
  have hz2 : ((w.alloc (.cells (i64s Mm.zeros).toArray 49)).alloc (.cells (i64s Mm.zeros).toArray 49)).heap.size = w.heap.size + 2 := by rw [World.size_alloc, hz1]
  have hb2 : Below w.heap.size w ((w.alloc (.cells (i64s Mm.zeros).toArray 49)).alloc (.cells (i64s Mm.zeros).toArray 49)) := ((Below.refl _ w).alloc (Nat.le_refl _) _).alloc (by omega) _
  have ht4 : ((w.alloc (.cells (i64s Mm.zeros).toArray 49)).alloc (.cells (i64s Mm.zeros).toArray 49)).there w.heap.size 0 10 := World.there_alloc (there_new w (i64s Mm.zeros) 49) _
  have ht5 := there_new (w.alloc (.cells (i64s Mm.zeros).toArray 49)) (i64s Mm.zeros) 49
  have hr5 : ((w.alloc (.cells (i64s Mm.zeros).toArray 49)).alloc (.cells (i64s Mm.zeros).toArray 49)).rangeAt (w.heap.size + 1) 0 (i64s Mm.zeros) := by
    have := range_new (w.alloc (.cells (i64s Mm.zeros).toArray 49)) (i64s Mm.zeros) 49
    rwa [hz1] at this
  rw [hz1] at ht5
  have HR0 := hr.below hb2 hgw
  have HX0 := hx.below (hb2.mono (by omega))
  have hB2 := Lib.hid hb2
  have HZ2 := Lib.hid hz2
  have HT4 := Lib.hid ht4
  have HT5 := Lib.hid ht5
  have HR5 := Lib.hid hr5
  have k2 := HR0.c2
  rw [show (i64s Mm.zeros).toArray = #[.int .i64 0, .int .i64 0, .int .i64 0, .int .i64 0, .int .i64 0, .int .i64 0, .int .i64 0, .int .i64 0, .int .i64 0, .int .i64 0] from rfl] at k2
  clear hb2 hz1 hz2 ht4 ht5 hr5 hr hx
  by_cases he : err = 0
  case neg =>
    have HE := Lib.hid (Mm.thenR_no (z := Mm.zeros) (s := (at_, err)) (r := Mm.rN xs) he)
    have hq : (err == 0) = false := by rw [beq_eq_false_iff_ne]; exact he
    have HR := Lib.hid HR0
    have hgr : Hid (((w.alloc (.cells (i64s Mm.zeros).toArray 49)).alloc (.cells (i64s Mm.zeros).toArray 49)).grownBy (((w.alloc (.cells (i64s Mm.zeros).toArray 49)).alloc (.cells (i64s Mm.zeros).toArray 49)).setCells w.heap.size 0 (i64s Mm.zeros)) (some w.heap.size)) := grown_set w.heap.size (i64s Mm.zeros) 0 _
    have hrng := Lib.hid (World.rangeAt_setCells_same ((w.alloc (.cells (i64s Mm.zeros).toArray 49)).alloc (.cells (i64s Mm.zeros).toArray 49)) w.heap.size 0 (i64s Mm.zeros) HT4.out)
    clear he HR0
    go_enter Tryd.func38, Tryd.ntmps38
    go_wp2_with (first | (refine wpList_load_mid rfl 49 _ rfl (w.heap.size + 1) 0 rfl (i64s Mm.zeros) _ HR5.out Tryd.underlying49 rfl info_mnums ?_) | (refine wpList_store_mid rfl 49 _ _ rfl w.heap.size 0 (i64s Mm.zeros).toArray rfl rfl HT4.out info_mnums (i64s_one _) ?_))
    refine bodyPost_ret (results_c rfl _ _ w.heap.size (i64s Mm.zeros) _ rfl hrng.out Tryd.underlying49 rfl info_mnums) rfl ?_
    rw [HE.out]
    exact ⟨rfl, HR.out.grown hgr.out (by omega) (by rw [HZ2.out]; omega), grown_of_below (below_grown hB2.out hgr.out (Nat.le_refl _) hB2.out.size) _⟩
  subst he
  have HE := Lib.hid (Mm.thenR_ok (z := Mm.zeros) (s := (at_, 0)) (r := Mm.rN xs) rfl)
  dsimp only at HE
  obtain ⟨t0, t1⟩ := hat rfl
  have HR := Lib.hid (fun (W : World) (h : Below (w.heap.size + 2) ((w.alloc (.cells (i64s Mm.zeros).toArray 49)).alloc (.cells (i64s Mm.zeros).toArray 49)) W) => HR0.below h (by omega))
  have HC := Lib.hid (fun (W : World) (h : Below (w.heap.size + 2) ((w.alloc (.cells (i64s Mm.zeros).toArray 49)).alloc (.cells (i64s Mm.zeros).toArray 49)) W) => numbersAt_any A n cap B xs at_ W (HX0.below (h.mono (by omega))) hn hnc hcap (Nat.le_trans (by rw [HZ2.out]; omega) h.size) hb t0 t1)
  have hln := Mm.rN_len xs at_
  clear hat HR0 HX0
  rw [HE.out]
  generalize Mm.rN xs at_ = q at *
  obtain ⟨q1, q2, q3⟩ := q
  dsimp only at *
  have hqs : Hid ((i64s q1).toArray.size = 10) := by rw [List.size_toArray, i64s_len, hln]; exact Lib.hid rfl
  have hql : Hid ((i64s q1).length = 10) := by rw [i64s_len, hln]; exact Lib.hid rfl
  have hqi : Hid ((Tryd.prog.info? 49).map (·.size) = some (i64s q1).length) := by rw [hql.out]; exact Lib.hid info_mnums
  have hqi2 : Hid ((Tryd.prog.info? 49).map (·.size) = some (i64s q1).toArray.size) := by rw [hqs.out]; exact Lib.hid info_mnums
  clear hln
  go_enter Tryd.func38, Tryd.ntmps38
  go_wp2_with fail
  refine region_F (fun W => Below (w.heap.size + 2) ((w.alloc (.cells (i64s Mm.zeros).toArray 49)).alloc (.cells (i64s Mm.zeros).toArray 49)) W) (fun j => j == 18 || j == 22 || j == 25) (by kernel_rfl) ?_
  have hC : Below (w.heap.size + 2) ((w.alloc (.cells (i64s Mm.zeros).toArray 49)).alloc (.cells (i64s Mm.zeros).toArray 49)) ((w.alloc (.cells (i64s Mm.zeros).toArray 49)).alloc (.cells (i64s Mm.zeros).toArray 49)).drew := (Below.refl _ _).drew
  refine anyP_take (i := 0) (v := ?v0_275) (a' := ?a0_275) rfl (by kernel_rfl) (by kernel_rfl) (by kernel_rfl) (fun _ _ _ h => h) (by first | exact .inl hC | exact .inr (by kernel_rfl)) (by kernel_rfl) ?w0_275 ?y0_275 ?f0_275 ?r0_275
  case w0_275 => kernel_rfl
  case y0_275 => (intro w hC; go_simp; try with_reducible rfl)
  case f0_275 => (go_simp; try with_reducible rfl)
  refine anyP_take (i := 1) (v := ?v1_276) (a' := ?a1_276) rfl (by kernel_rfl) (by kernel_rfl) (by kernel_rfl) (fun _ _ _ h => h) (by first | exact .inl hC | exact .inr (by kernel_rfl)) (by kernel_rfl) ?w1_276 ?y1_276 ?f1_276 ?r1_276
  case w1_276 => kernel_rfl
  case y1_276 => (intro w hC; go_simp; try with_reducible rfl)
  case f1_276 => (go_simp; try with_reducible rfl)
  refine anyP_take (i := 2) (v := ?v2_277) (a' := ?a2_277) rfl (by kernel_rfl) (by kernel_rfl) (by kernel_rfl) (fun _ _ _ h => h) (by first | exact .inl hC | exact .inr (by kernel_rfl)) (by kernel_rfl) ?w2_277 ?y2_277 ?f2_277 ?r2_277
  case w2_277 => kernel_rfl
  case y2_277 => (intro w hC; go_simp; try with_reducible rfl)
  case f2_277 => (go_simp; try with_reducible rfl)
  refine anyP_take (i := 3) (v := ?v3_278) (a' := ?a3_278) rfl (by kernel_rfl) (by kernel_rfl) (by kernel_rfl) (fun _ _ _ h => h) (by first | exact .inl hC | exact .inr (by kernel_rfl)) (by kernel_rfl) ?w3_278 ?y3_278 ?f3_278 ?r3_278
  case w3_278 => kernel_rfl
  case y3_278 => (intro w hC; go_simp; try with_reducible rfl)
  case f3_278 => (go_simp; try with_reducible rfl)
  refine anyP_take (i := 4) (v := ?v4_279) (a' := ?a4_279) rfl (by kernel_rfl) (by kernel_rfl) (by kernel_rfl) (fun _ _ _ h => h) (by first | exact .inl hC | exact .inr (by kernel_rfl)) (by kernel_rfl) ?w4_279 ?y4_279 ?f4_279 ?r4_279
  case w4_279 => kernel_rfl
  case y4_279 => (intro w hC; go_simp; try with_reducible rfl)
  case f4_279 => (go_simp; try with_reducible rfl)
  refine anyP_take (i := 5) (v := ?v5_280) (a' := ?a5_280) rfl (by kernel_rfl) (by kernel_rfl) (by kernel_rfl) (fun _ _ _ h => h) (by first | exact .inl hC | exact .inr (by kernel_rfl)) (by kernel_rfl) ?w5_280 ?y5_280 ?f5_280 ?r5_280
  case w5_280 => kernel_rfl
  case y5_280 => (intro w hC; go_simp; try with_reducible rfl)
  case f5_280 => (go_simp; try with_reducible rfl)
  refine anyP_take (i := 6) (v := ?v6_281) (a' := ?a6_281) rfl (by kernel_rfl) (by kernel_rfl) (by kernel_rfl) (fun _ _ _ h => h) (by first | exact .inl hC | exact .inr (by kernel_rfl)) (by kernel_rfl) ?w6_281 ?y6_281 ?f6_281 ?r6_281
  case w6_281 => kernel_rfl
  case y6_281 => (intro w hC; go_simp; try with_reducible rfl)
  case f6_281 => (go_simp; try with_reducible rfl)
  refine anyP_take (i := 8) (v := ?v8_282) (a' := ?a8_282) rfl (by kernel_rfl) (by kernel_rfl) (by kernel_rfl) (fun _ _ _ h => h) (by first | exact .inl hC | exact .inr (by kernel_rfl)) (by kernel_rfl) ?w8_282 ?y8_282 ?f8_282 ?r8_282
  case w8_282 => kernel_rfl
  case y8_282 => (intro w hC; go_simp; try with_reducible rfl)
  case f8_282 => (go_simp; try with_reducible rfl)
  refine anyP_take (i := 9) (v := ?v9_283) (a' := ?a9_283) rfl (by kernel_rfl) (by kernel_rfl) (by kernel_rfl) (fun _ _ _ h => h) (by first | exact .inl hC | exact .inr (by kernel_rfl)) (by kernel_rfl) ?w9_283 ?y9_283 ?f9_283 ?r9_283
  case w9_283 => kernel_rfl
  case y9_283 => (intro w hC; go_simp; try with_reducible rfl)
  case f9_283 => (go_simp; try with_reducible rfl)
  refine anyP_take (i := 10) (v := ?v10_284) (a' := ?a10_284) rfl (by kernel_rfl) (by kernel_rfl) (by kernel_rfl) (fun _ _ _ h => h) (by first | exact .inl hC | exact .inr (by kernel_rfl)) (by kernel_rfl) ?w10_284 ?y10_284 ?f10_284 ?r10_284
  case w10_284 => kernel_rfl
  case y10_284 => (intro w hC; go_simp; try with_reducible rfl)
  case f10_284 => (go_simp; try with_reducible rfl)
  refine anyP_take (i := 11) (v := ?v11_285) (a' := ?a11_285) rfl (by kernel_rfl) (by kernel_rfl) (by kernel_rfl) (fun _ _ _ h => h) (by first | exact .inl hC | exact .inr (by kernel_rfl)) (by kernel_rfl) ?w11_285 ?y11_285 ?f11_285 ?r11_285
  case w11_285 => kernel_rfl
  case y11_285 => (intro w hC; go_simp; try with_reducible rfl)
  case f11_285 => (go_simp; try with_reducible rfl)
  refine anyF_take (i := 7) (v := ?v7_286) (a' := ?a7_286) rfl (by kernel_rfl) (by kernel_rfl) (by kernel_rfl) (fun _ _ _ h => h) hC (by kernel_rfl) ?w7_286 ?y7_286 ?f7_286 ?r7_286
  case w7_286 => kernel_rfl
  case y7_286 => (intro w hC; have h4 := (HR.out w hC).c0; go_simp; try with_reducible rfl)
  case f7_286 => (go_simp; try with_reducible rfl)
  refine anyF_take (i := 12) (v := ?v12_287) (a' := ?a12_287) rfl (by kernel_rfl) (by kernel_rfl) (by kernel_rfl) (fun _ _ _ h => h) hC (by kernel_rfl) ?w12_287 ?y12_287 ?f12_287 ?r12_287
  case w12_287 => kernel_rfl
  case y12_287 => (intro w hC; have h4 := (HR.out w hC).c1; go_simp; try with_reducible rfl)
  case f12_287 => (go_simp; try with_reducible rfl)
  refine anyF_one (i := 13) rfl (by kernel_rfl) (by kernel_rfl) (fun K hK => ?_)
  go_simp
  refine (HC.out _ hC).mono ?_
  rintro e w2 ⟨rfl, hb2⟩
  have hC2 : Below (w.heap.size + 2) ((w.alloc (.cells (i64s Mm.zeros).toArray 49)).alloc (.cells (i64s Mm.zeros).toArray 49)) w2 := hC.trans (hb2.mono (by rw [← HZ2.out]; exact hC.size))
  refine hK _ _ ⟨.inl hC2, ?_⟩
  clear hK K hb2
  refine anyP_take (i := 14) (v := ?v14_288) (a' := ?a14_288) rfl (by kernel_rfl) (by kernel_rfl) (by kernel_rfl) (fun _ _ _ h => h) (by first | exact .inl hC2 | exact .inr (by kernel_rfl)) (by kernel_rfl) ?w14_288 ?y14_288 ?f14_288 ?r14_288
  case w14_288 => kernel_rfl
  case y14_288 => (intro w hC; go_simp; try with_reducible rfl)
  case f14_288 => (go_simp; try with_reducible rfl)
  refine anyP_take (i := 15) (v := ?v15_289) (a' := ?a15_289) rfl (by kernel_rfl) (by kernel_rfl) (by kernel_rfl) (fun _ _ _ h => h) (by first | exact .inl hC2 | exact .inr (by kernel_rfl)) (by kernel_rfl) ?w15_289 ?y15_289 ?f15_289 ?r15_289
  case w15_289 => kernel_rfl
  case y15_289 => (intro w hC; go_simp; try with_reducible rfl)
  case f15_289 => (go_simp; try with_reducible rfl)
  refine anyP_take (i := 16) (v := ?v16_290) (a' := ?a16_290) rfl (by kernel_rfl) (by kernel_rfl) (by kernel_rfl) (fun _ _ _ h => h) (by first | exact .inl hC2 | exact .inr (by kernel_rfl)) (by kernel_rfl) ?w16_290 ?y16_290 ?f16_290 ?r16_290
  case w16_290 => kernel_rfl
  case y16_290 => (intro w hC; go_simp; try with_reducible rfl)
  case f16_290 => (go_simp; try with_reducible rfl)
  refine anyP_take (i := 17) (v := ?v17_291) (a' := ?a17_291) rfl (by kernel_rfl) (by kernel_rfl) (by kernel_rfl) (fun _ _ _ h => h) (by first | exact .inl hC2 | exact .inr (by kernel_rfl)) (by kernel_rfl) ?w17_291 ?y17_291 ?f17_291 ?r17_291
  case w17_291 => kernel_rfl
  case y17_291 => (intro w hC; go_simp; try with_reducible rfl)
  case f17_291 => (go_simp; try with_reducible rfl)
  have HR2 := Lib.hid (HR.out w2 hC2)
  have hw2 : w.heap.size + 2 ≤ w2.heap.size := by have := hC2.size; rwa [HZ2.out] at this
  have T5 : Hid (w2.there (w.heap.size + 1) 0 (i64s q1).toArray.size) := by rw [hqs.out]; exact there_below HT5.out hC2 (by omega)
  have T4 : Hid (w2.there w.heap.size 0 (i64s q1).toArray.size) := by rw [hqs.out]; exact there_below HT4.out hC2 (by omega)
  refine anyF_one (i := 18) rfl (by kernel_rfl) (by kernel_rfl) (fun K hK => ?_)
  refine op_store_mid 49 (.tmp 5) (.tmp 26) rfl (w.heap.size + 1) 0 (i64s q1).toArray rfl rfl T5.out hqi2.out (i64s_one _) ?_
  have hg5 : Hid (w2.grownBy (w2.setCells (w.heap.size + 1) 0 (i64s q1)) (some (w.heap.size + 1))) := grown_set (w.heap.size + 1) (i64s q1) 0 w2
  have hr5 := Lib.hid (World.rangeAt_setCells_same w2 (w.heap.size + 1) 0 (i64s q1) (by have := T5.out; rwa [List.size_toArray] at this))
  have T4' := Lib.hid (there_grown T4.out hg5.out (by omega) (by omega))
  have HR3 := Lib.hid (HR2.out.grown hg5.out (by omega) (by omega))
  refine hK _ _ ⟨.inr (by kernel_rfl), ?_⟩
  clear hK K T5 T4 HR2
  go_simp
  have hz3 := hg5.out.size
  generalize w2.setCells (w.heap.size + 1) 0 (i64s q1) = w3 at *
  refine anyP_take (i := 19) (v := ?v19_292) (a' := ?a19_292) rfl (by kernel_rfl) (by kernel_rfl) (by kernel_rfl) (fun _ _ _ h => h) (by first | exact .inl hC2 | exact .inr (by kernel_rfl)) (by kernel_rfl) ?w19_292 ?y19_292 ?f19_292 ?r19_292
  case w19_292 => kernel_rfl
  case y19_292 => (intro w hC; go_simp; try with_reducible rfl)
  case f19_292 => (go_simp; try with_reducible rfl)
  refine anyP_take (i := 20) (v := ?v20_293) (a' := ?a20_293) rfl (by kernel_rfl) (by kernel_rfl) (by kernel_rfl) (fun _ _ _ h => h) (by first | exact .inl hC2 | exact .inr (by kernel_rfl)) (by kernel_rfl) ?w20_293 ?y20_293 ?f20_293 ?r20_293
  case w20_293 => kernel_rfl
  case y20_293 => (intro w hC; go_simp; try with_reducible rfl)
  case f20_293 => (go_simp; try with_reducible rfl)
  refine anyP_take (i := 21) (v := ?v21_294) (a' := ?a21_294) rfl (by kernel_rfl) (by kernel_rfl) (by kernel_rfl) (fun _ _ _ h => h) (by first | exact .inl hC2 | exact .inr (by kernel_rfl)) (by kernel_rfl) ?w21_294 ?y21_294 ?f21_294 ?r21_294
  case w21_294 => kernel_rfl
  case y21_294 => (intro w hC; go_simp; try with_reducible rfl)
  case f21_294 => (go_simp; try with_reducible rfl)
  have q1' := HR3.out.c1
  have f1' := HR3.out.f 1 (by decide)
  have q2' := HR3.out.kept1 q2
  obtain ⟨q2a, f2a⟩ := q2'
  refine anyF_one (i := 22) rfl (by kernel_rfl) (by kernel_rfl) (fun K hK => ?_)
  go_simp
  refine hK _ _ ⟨.inr (by kernel_rfl), ?_⟩
  clear hK K
  refine anyP_take (i := 23) (v := ?v23_295) (a' := ?a23_295) rfl (by kernel_rfl) (by kernel_rfl) (by kernel_rfl) (fun _ _ _ h => h) (by first | exact .inl hC2 | exact .inr (by kernel_rfl)) (by kernel_rfl) ?w23_295 ?y23_295 ?f23_295 ?r23_295
  case w23_295 => kernel_rfl
  case y23_295 => (intro w hC; go_simp; try with_reducible rfl)
  case f23_295 => (go_simp; try with_reducible rfl)
  refine anyP_take (i := 24) (v := ?v24_296) (a' := ?a24_296) rfl (by kernel_rfl) (by kernel_rfl) (by kernel_rfl) (fun _ _ _ h => h) (by first | exact .inl hC2 | exact .inr (by kernel_rfl)) (by kernel_rfl) ?w24_296 ?y24_296 ?f24_296 ?r24_296
  case w24_296 => kernel_rfl
  case y24_296 => (intro w hC; go_simp; try with_reducible rfl)
  case f24_296 => (go_simp; try with_reducible rfl)
  refine anyF_one (i := 25) rfl (by kernel_rfl) (by kernel_rfl) (fun K hK => ?_)
  go_simp
  refine hK _ _ ⟨.inr (by kernel_rfl), ?_⟩
  clear hK K q1' f1' q2a f2a
  refine anyF_done (by kernel_rfl) ?_
  have hgr : Hid (w3.grownBy ((w3.setCell ⟨g, 1, none⟩ (.int .i64 q2)).setCell ⟨g, 2, none⟩ (.int .i64 q3)) (some g)) := (grown_set1 g 1 _ w3).trans (grown_set1 g 2 _ _)
  have hRS := Lib.hid (HR3.out.set q2 q3)
  have hr5' := Lib.hid (rangeAt_grown hr5.out hgr.out (by omega) (by omega))
  have T4'' := Lib.hid (there_grown T4'.out hgr.out (by omega) (by omega))
  generalize (w3.setCell ⟨g, 1, none⟩ (.int .i64 q2)).setCell ⟨g, 2, none⟩ (.int .i64 q3) = w4 at *
  have hz4 := hgr.out.size
  have hgf : Hid (w4.grownBy (w4.setCells w.heap.size 0 (i64s q1)) (some w.heap.size)) := grown_set w.heap.size (i64s q1) 0 w4
  have hrng := Lib.hid (World.rangeAt_setCells_same w4 w.heap.size 0 (i64s q1) (by have := T4''.out; rwa [List.size_toArray] at this))
  have HRF := Lib.hid (hRS.out.grown hgf.out (by omega) (by omega))
  have hB3 := Lib.hid (below_grown (hB2.out.trans (hC2.mono (by omega))) hg5.out (by omega) (by omega))
  have hgw4 : Hid (w.grownBy (w4.setCells w.heap.size 0 (i64s q1)) (some g)) := grown_then ((grown_of_below hB3.out (some g)).trans hgr.out) hgf.out (Nat.le_refl _)
  go_wp2_with (first | (refine wpList_load_mid rfl 49 _ rfl (w.heap.size + 1) 0 rfl (i64s q1) _ hr5'.out Tryd.underlying49 rfl hqi.out ?_) | (refine wpList_store_mid rfl 49 _ _ rfl w.heap.size 0 (i64s q1).toArray rfl rfl T4''.out hqi2.out (i64s_one _) ?_))
  refine bodyPost_ret (results_c rfl _ _ w.heap.size (i64s q1) _ rfl hrng.out Tryd.underlying49 rfl hqi.out) rfl ?_
  exact ⟨rfl, HRF.out, hgw4.out⟩
end Go.Proofs.YtpgfnhdaembhmaaDoor
