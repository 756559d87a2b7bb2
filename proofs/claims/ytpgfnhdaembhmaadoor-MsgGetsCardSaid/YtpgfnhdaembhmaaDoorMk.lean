/- What a body's reader reads, further: the plan: the program's. -/
import Derived.Test.YtpgfnhdaembhmaaDoorMj
namespace Go.Proofs.YtpgfnhdaembhmaaDoor
open Go.RowKit Go.Shelf

set_option maxRecDepth 100000 in
set_option maxHeartbeats 4000000 in
theorem readP_any (g : Nat) (A : Option Addr) (n cap B : Nat) (xs : List Int) (at_ err : Int) (w : World) (hr : Rdr w g A n cap at_ err) (hg : B ≤ g) (hgw : g < w.heap.size) (hx : Rd w B A (u8s xs)) (hn : xs.length = n) (hnc : n ≤ cap) (hcap : cap ≤ maxLen) (hb : Fm.By xs)
    (htab : Tab w) (hat : err = 0 → -9223372036854775808 ≤ at_ ∧ at_ ≤ 9223372036854775807) :
    Calls Tryd.prog 41 #[.pointer (some ⟨g, 0, none⟩), .func (.func 42) #[] #[]] w fun e w' => ∃ A1 n1 c1 A2 n2 c2, e = .returned (pv (Mm.thenR Pm.zero (at_, err) (Mm.rP xs)).1 A1 n1 c1 A2 n2 c2) ∧ PlAt w' w'.heap.size (Mm.thenR Pm.zero (at_, err) (Mm.rP xs)).1 A1 n1 c1 A2 n2 c2 ∧ Fr w.heap.size A1 ∧ Fr w.heap.size A2 ∧
      Rdr w' g A n cap (Mm.thenR Pm.zero (at_, err) (Mm.rP xs)).2.1 (Mm.thenR Pm.zero (at_, err) (Mm.rP xs)).2.2 ∧ w.grownBy w' (some g) := by
  have hz1 : (w.alloc (.cells (pvs Pm.zero none 0 0 none 0 0).toArray 27)).heap.size = w.heap.size + 1 := World.size_alloc ..
  have hz2 : ((w.alloc (.cells (pvs Pm.zero none 0 0 none 0 0).toArray 27)).alloc (.cells (pvs Pm.zero none 0 0 none 0 0).toArray 27)).heap.size = w.heap.size + 2 := by rw [World.size_alloc, hz1]
  have hb2 : Below w.heap.size w ((w.alloc (.cells (pvs Pm.zero none 0 0 none 0 0).toArray 27)).alloc (.cells (pvs Pm.zero none 0 0 none 0 0).toArray 27)) := ((Below.refl _ w).alloc (Nat.le_refl _) _).alloc (by omega) _
  have ht4 : ((w.alloc (.cells (pvs Pm.zero none 0 0 none 0 0).toArray 27)).alloc (.cells (pvs Pm.zero none 0 0 none 0 0).toArray 27)).there w.heap.size 0 12 := World.there_alloc (there_new w (pvs Pm.zero none 0 0 none 0 0) 27) _
  have ht5 := there_new (w.alloc (.cells (pvs Pm.zero none 0 0 none 0 0).toArray 27)) (pvs Pm.zero none 0 0 none 0 0) 27
  have hr5 : ((w.alloc (.cells (pvs Pm.zero none 0 0 none 0 0).toArray 27)).alloc (.cells (pvs Pm.zero none 0 0 none 0 0).toArray 27)).rangeAt (w.heap.size + 1) 0 (pvs Pm.zero none 0 0 none 0 0) := by
    have := range_new (w.alloc (.cells (pvs Pm.zero none 0 0 none 0 0).toArray 27)) (pvs Pm.zero none 0 0 none 0 0) 27
    rwa [hz1] at this
  rw [hz1] at ht5
  have HR0 := hr.below hb2 hgw
  have HX0 := hx.below (hb2.mono (by omega))
  have HTAB := Lib.hid (htab.below hb2 (Nat.le_refl _))
  have hB2 := Lib.hid hb2
  have HZ2 := Lib.hid hz2
  have HT4 := Lib.hid ht4
  have HT5 := Lib.hid ht5
  have HR5 := Lib.hid hr5
  have k2 := HR0.c2
  rw [show (pvs Pm.zero none 0 0 none 0 0).toArray = #[.int .i64 0, .int .i64 0, .int .i64 0, .int .i64 0, .int .i64 0, .int .i64 0, .int .i64 0, .int .i64 0, .int .u64 0, .int .u64 0, .slice none 0 0, .slice none 0 0] from rfl] at k2
  clear hb2 hz1 hz2 ht4 ht5 hr5 hr hx htab
  by_cases he : err = 0
  case neg =>
    have HE := Lib.hid (Mm.thenR_no (z := Pm.zero) (s := (at_, err)) (r := Mm.rP xs) he)
    have hq : (err == 0) = false := by rw [beq_eq_false_iff_ne]; exact he
    have HR := Lib.hid HR0
    have hgr : Hid (((w.alloc (.cells (pvs Pm.zero none 0 0 none 0 0).toArray 27)).alloc (.cells (pvs Pm.zero none 0 0 none 0 0).toArray 27)).grownBy (((w.alloc (.cells (pvs Pm.zero none 0 0 none 0 0).toArray 27)).alloc (.cells (pvs Pm.zero none 0 0 none 0 0).toArray 27)).setCells w.heap.size 0 (pvs Pm.zero none 0 0 none 0 0)) (some w.heap.size)) := grown_set w.heap.size (pvs Pm.zero none 0 0 none 0 0) 0 _
    have hrng := Lib.hid (World.rangeAt_setCells_same ((w.alloc (.cells (pvs Pm.zero none 0 0 none 0 0).toArray 27)).alloc (.cells (pvs Pm.zero none 0 0 none 0 0).toArray 27)) w.heap.size 0 (pvs Pm.zero none 0 0 none 0 0) HT4.out)
    clear he HR0
    go_enter Tryd.func41, Tryd.ntmps41
    go_wp2_with (first | (refine wpList_load_mid rfl 27 _ rfl (w.heap.size + 1) 0 rfl (pvs Pm.zero none 0 0 none 0 0) _ HR5.out Tryd.underlying27 rfl info_plan ?_) | (refine wpList_store_mid rfl 27 _ _ rfl w.heap.size 0 (pvs Pm.zero none 0 0 none 0 0).toArray rfl rfl HT4.out info_plan (pvs_one _ _ _ _ _ _ _) ?_))
    refine bodyPost_ret (results_c rfl _ _ w.heap.size (pvs Pm.zero none 0 0 none 0 0) _ rfl hrng.out Tryd.underlying27 rfl info_plan) rfl ?_
    rw [HE.out]
    exact ⟨none, 0, 0, none, 0, 0, rfl, PlAt.zero _ _, Fr.none, Fr.none, HR.out.grown hgr.out (by omega) (by rw [HZ2.out]; omega), grown_of_below (below_grown hB2.out hgr.out (Nat.le_refl _) hB2.out.size) _⟩
  subst he
  have HE := Lib.hid (Mm.thenR_ok (z := Pm.zero) (s := (at_, 0)) (r := Mm.rP xs) rfl)
  dsimp only at HE
  obtain ⟨t0, t1⟩ := hat rfl
  have HR := Lib.hid (fun (W : World) (h : Below (w.heap.size + 2) ((w.alloc (.cells (pvs Pm.zero none 0 0 none 0 0).toArray 27)).alloc (.cells (pvs Pm.zero none 0 0 none 0 0).toArray 27)) W) => HR0.below h (by omega))
  have HC := Lib.hid (fun (W : World) (h : Below (w.heap.size + 2) ((w.alloc (.cells (pvs Pm.zero none 0 0 none 0 0).toArray 27)).alloc (.cells (pvs Pm.zero none 0 0 none 0 0).toArray 27)) W) => planAt_any A n cap B xs at_ W (HX0.below (h.mono (by omega))) hn hnc hcap (Nat.le_trans (by rw [HZ2.out]; omega) h.size) hb t0 t1 (HTAB.out.below h (by rw [HZ2.out]; exact Nat.le_refl _)))
  clear hat HR0 HX0
  rw [HE.out]
  generalize Mm.rP xs at_ = q at *
  obtain ⟨q1, q2, q3⟩ := q
  dsimp only at *
  go_enter Tryd.func41, Tryd.ntmps41
  go_wp2_with fail
  refine region_F (fun W => Below (w.heap.size + 2) ((w.alloc (.cells (pvs Pm.zero none 0 0 none 0 0).toArray 27)).alloc (.cells (pvs Pm.zero none 0 0 none 0 0).toArray 27)) W) (fun j => j == 18 || j == 22 || j == 25) (by kernel_rfl) ?_
  have hC : Below (w.heap.size + 2) ((w.alloc (.cells (pvs Pm.zero none 0 0 none 0 0).toArray 27)).alloc (.cells (pvs Pm.zero none 0 0 none 0 0).toArray 27)) ((w.alloc (.cells (pvs Pm.zero none 0 0 none 0 0).toArray 27)).alloc (.cells (pvs Pm.zero none 0 0 none 0 0).toArray 27)).drew := (Below.refl _ _).drew
  refine anyP_take (i := 0) (v := ?v0_297) (a' := ?a0_297) rfl (by kernel_rfl) (by kernel_rfl) (by kernel_rfl) (fun _ _ _ h => h) (by first | exact .inl hC | exact .inr (by kernel_rfl)) (by kernel_rfl) ?w0_297 ?y0_297 ?f0_297 ?r0_297
  case w0_297 => kernel_rfl
  case y0_297 => (intro w hC; go_simp; try with_reducible rfl)
  case f0_297 => (go_simp; try with_reducible rfl)
  refine anyP_take (i := 1) (v := ?v1_298) (a' := ?a1_298) rfl (by kernel_rfl) (by kernel_rfl) (by kernel_rfl) (fun _ _ _ h => h) (by first | exact .inl hC | exact .inr (by kernel_rfl)) (by kernel_rfl) ?w1_298 ?y1_298 ?f1_298 ?r1_298
  case w1_298 => kernel_rfl
  case y1_298 => (intro w hC; go_simp; try with_reducible rfl)
  case f1_298 => (go_simp; try with_reducible rfl)
  refine anyP_take (i := 2) (v := ?v2_299) (a' := ?a2_299) rfl (by kernel_rfl) (by kernel_rfl) (by kernel_rfl) (fun _ _ _ h => h) (by first | exact .inl hC | exact .inr (by kernel_rfl)) (by kernel_rfl) ?w2_299 ?y2_299 ?f2_299 ?r2_299
  case w2_299 => kernel_rfl
  case y2_299 => (intro w hC; go_simp; try with_reducible rfl)
  case f2_299 => (go_simp; try with_reducible rfl)
  refine anyP_take (i := 3) (v := ?v3_300) (a' := ?a3_300) rfl (by kernel_rfl) (by kernel_rfl) (by kernel_rfl) (fun _ _ _ h => h) (by first | exact .inl hC | exact .inr (by kernel_rfl)) (by kernel_rfl) ?w3_300 ?y3_300 ?f3_300 ?r3_300
  case w3_300 => kernel_rfl
  case y3_300 => (intro w hC; go_simp; try with_reducible rfl)
  case f3_300 => (go_simp; try with_reducible rfl)
  refine anyP_take (i := 4) (v := ?v4_301) (a' := ?a4_301) rfl (by kernel_rfl) (by kernel_rfl) (by kernel_rfl) (fun _ _ _ h => h) (by first | exact .inl hC | exact .inr (by kernel_rfl)) (by kernel_rfl) ?w4_301 ?y4_301 ?f4_301 ?r4_301
  case w4_301 => kernel_rfl
  case y4_301 => (intro w hC; go_simp; try with_reducible rfl)
  case f4_301 => (go_simp; try with_reducible rfl)
  refine anyP_take (i := 5) (v := ?v5_302) (a' := ?a5_302) rfl (by kernel_rfl) (by kernel_rfl) (by kernel_rfl) (fun _ _ _ h => h) (by first | exact .inl hC | exact .inr (by kernel_rfl)) (by kernel_rfl) ?w5_302 ?y5_302 ?f5_302 ?r5_302
  case w5_302 => kernel_rfl
  case y5_302 => (intro w hC; go_simp; try with_reducible rfl)
  case f5_302 => (go_simp; try with_reducible rfl)
  refine anyP_take (i := 6) (v := ?v6_303) (a' := ?a6_303) rfl (by kernel_rfl) (by kernel_rfl) (by kernel_rfl) (fun _ _ _ h => h) (by first | exact .inl hC | exact .inr (by kernel_rfl)) (by kernel_rfl) ?w6_303 ?y6_303 ?f6_303 ?r6_303
  case w6_303 => kernel_rfl
  case y6_303 => (intro w hC; go_simp; try with_reducible rfl)
  case f6_303 => (go_simp; try with_reducible rfl)
  refine anyP_take (i := 8) (v := ?v8_304) (a' := ?a8_304) rfl (by kernel_rfl) (by kernel_rfl) (by kernel_rfl) (fun _ _ _ h => h) (by first | exact .inl hC | exact .inr (by kernel_rfl)) (by kernel_rfl) ?w8_304 ?y8_304 ?f8_304 ?r8_304
  case w8_304 => kernel_rfl
  case y8_304 => (intro w hC; go_simp; try with_reducible rfl)
  case f8_304 => (go_simp; try with_reducible rfl)
  refine anyP_take (i := 9) (v := ?v9_305) (a' := ?a9_305) rfl (by kernel_rfl) (by kernel_rfl) (by kernel_rfl) (fun _ _ _ h => h) (by first | exact .inl hC | exact .inr (by kernel_rfl)) (by kernel_rfl) ?w9_305 ?y9_305 ?f9_305 ?r9_305
  case w9_305 => kernel_rfl
  case y9_305 => (intro w hC; go_simp; try with_reducible rfl)
  case f9_305 => (go_simp; try with_reducible rfl)
  refine anyP_take (i := 10) (v := ?v10_306) (a' := ?a10_306) rfl (by kernel_rfl) (by kernel_rfl) (by kernel_rfl) (fun _ _ _ h => h) (by first | exact .inl hC | exact .inr (by kernel_rfl)) (by kernel_rfl) ?w10_306 ?y10_306 ?f10_306 ?r10_306
  case w10_306 => kernel_rfl
  case y10_306 => (intro w hC; go_simp; try with_reducible rfl)
  case f10_306 => (go_simp; try with_reducible rfl)
  refine anyP_take (i := 11) (v := ?v11_307) (a' := ?a11_307) rfl (by kernel_rfl) (by kernel_rfl) (by kernel_rfl) (fun _ _ _ h => h) (by first | exact .inl hC | exact .inr (by kernel_rfl)) (by kernel_rfl) ?w11_307 ?y11_307 ?f11_307 ?r11_307
  case w11_307 => kernel_rfl
  case y11_307 => (intro w hC; go_simp; try with_reducible rfl)
  case f11_307 => (go_simp; try with_reducible rfl)
  refine anyF_take (i := 7) (v := ?v7_308) (a' := ?a7_308) rfl (by kernel_rfl) (by kernel_rfl) (by kernel_rfl) (fun _ _ _ h => h) hC (by kernel_rfl) ?w7_308 ?y7_308 ?f7_308 ?r7_308
  case w7_308 => kernel_rfl
  case y7_308 => (intro w hC; have h4 := (HR.out w hC).c0; go_simp; try with_reducible rfl)
  case f7_308 => (go_simp; try with_reducible rfl)
  refine anyF_take (i := 12) (v := ?v12_309) (a' := ?a12_309) rfl (by kernel_rfl) (by kernel_rfl) (by kernel_rfl) (fun _ _ _ h => h) hC (by kernel_rfl) ?w12_309 ?y12_309 ?f12_309 ?r12_309
  case w12_309 => kernel_rfl
  case y12_309 => (intro w hC; have h4 := (HR.out w hC).c1; go_simp; try with_reducible rfl)
  case f12_309 => (go_simp; try with_reducible rfl)
  refine anyF_one (i := 13) rfl (by kernel_rfl) (by kernel_rfl) (fun K hK => ?_)
  go_simp
  refine (HC.out _ hC).mono ?_
  rintro e w2 ⟨A1, n1, c1, A2, n2, c2, rfl, hpl, hf1, hf2, hb2⟩
  have hd2 : w.heap.size + 2 ≤ (World.drew ((w.alloc (.cells (pvs Pm.zero none 0 0 none 0 0).toArray 27)).alloc (.cells (pvs Pm.zero none 0 0 none 0 0).toArray 27))).heap.size := by rw [← HZ2.out]; exact hC.size
  have HF1 := Lib.hid (hf1.mono hd2)
  have HF2 := Lib.hid (hf2.mono hd2)
  have HPL := Lib.hid hpl
  clear hf1 hf2 hpl hd2
  have hC2 : Below (w.heap.size + 2) ((w.alloc (.cells (pvs Pm.zero none 0 0 none 0 0).toArray 27)).alloc (.cells (pvs Pm.zero none 0 0 none 0 0).toArray 27)) w2 := hC.trans (hb2.mono (by rw [← HZ2.out]; exact hC.size))
  refine hK _ _ ⟨.inl hC2, ?_⟩
  clear hK K hb2
  refine anyP_take (i := 14) (v := ?v14_310) (a' := ?a14_310) rfl (by kernel_rfl) (by kernel_rfl) (by kernel_rfl) (fun _ _ _ h => h) (by first | exact .inl hC2 | exact .inr (by kernel_rfl)) (by kernel_rfl) ?w14_310 ?y14_310 ?f14_310 ?r14_310
  case w14_310 => kernel_rfl
  case y14_310 => (intro w hC; go_simp; try with_reducible rfl)
  case f14_310 => (go_simp; try with_reducible rfl)
  refine anyP_take (i := 15) (v := ?v15_311) (a' := ?a15_311) rfl (by kernel_rfl) (by kernel_rfl) (by kernel_rfl) (fun _ _ _ h => h) (by first | exact .inl hC2 | exact .inr (by kernel_rfl)) (by kernel_rfl) ?w15_311 ?y15_311 ?f15_311 ?r15_311
  case w15_311 => kernel_rfl
  case y15_311 => (intro w hC; go_simp; try with_reducible rfl)
  case f15_311 => (go_simp; try with_reducible rfl)
  refine anyP_take (i := 16) (v := ?v16_312) (a' := ?a16_312) rfl (by kernel_rfl) (by kernel_rfl) (by kernel_rfl) (fun _ _ _ h => h) (by first | exact .inl hC2 | exact .inr (by kernel_rfl)) (by kernel_rfl) ?w16_312 ?y16_312 ?f16_312 ?r16_312
  case w16_312 => kernel_rfl
  case y16_312 => (intro w hC; go_simp; try with_reducible rfl)
  case f16_312 => (go_simp; try with_reducible rfl)
  refine anyP_take (i := 17) (v := ?v17_313) (a' := ?a17_313) rfl (by kernel_rfl) (by kernel_rfl) (by kernel_rfl) (fun _ _ _ h => h) (by first | exact .inl hC2 | exact .inr (by kernel_rfl)) (by kernel_rfl) ?w17_313 ?y17_313 ?f17_313 ?r17_313
  case w17_313 => kernel_rfl
  case y17_313 => (intro w hC; go_simp; try with_reducible rfl)
  case f17_313 => (go_simp; try with_reducible rfl)
  have HR2 := Lib.hid (HR.out w2 hC2)
  have hw2 : w.heap.size + 2 ≤ w2.heap.size := by have := hC2.size; rwa [HZ2.out] at this
  have T5 : Hid (w2.there (w.heap.size + 1) 0 (pvs q1 A1 n1 c1 A2 n2 c2).toArray.size) := there_below HT5.out hC2 (by omega)
  have T4 : Hid (w2.there w.heap.size 0 (pvs q1 A1 n1 c1 A2 n2 c2).toArray.size) := there_below HT4.out hC2 (by omega)
  refine anyF_one (i := 18) rfl (by kernel_rfl) (by kernel_rfl) (fun K hK => ?_)
  refine op_store_mid 27 (.tmp 5) (.tmp 26) rfl (w.heap.size + 1) 0 (pvs q1 A1 n1 c1 A2 n2 c2).toArray rfl rfl T5.out info_plan (pvs_one _ _ _ _ _ _ _) ?_
  have hg5 : Hid (w2.grownBy (w2.setCells (w.heap.size + 1) 0 (pvs q1 A1 n1 c1 A2 n2 c2)) (some (w.heap.size + 1))) := grown_set (w.heap.size + 1) (pvs q1 A1 n1 c1 A2 n2 c2) 0 w2
  have hr5 := Lib.hid (World.rangeAt_setCells_same w2 (w.heap.size + 1) 0 (pvs q1 A1 n1 c1 A2 n2 c2) T5.out)
  have T4' := Lib.hid (there_grown T4.out hg5.out (by omega) (by omega))
  have HR3 := Lib.hid (HR2.out.grown hg5.out (by omega) (by omega))
  have HPL3 := Lib.hid (HPL.out.other HF1.out HF2.out hg5.out (by omega) (Nat.le_refl _))
  refine hK _ _ ⟨.inr (by kernel_rfl), ?_⟩
  clear hK K T5 T4 HR2 HPL
  go_simp
  have hz3 := hg5.out.size
  generalize w2.setCells (w.heap.size + 1) 0 (pvs q1 A1 n1 c1 A2 n2 c2) = w3 at *
  refine anyP_take (i := 19) (v := ?v19_314) (a' := ?a19_314) rfl (by kernel_rfl) (by kernel_rfl) (by kernel_rfl) (fun _ _ _ h => h) (by first | exact .inl hC2 | exact .inr (by kernel_rfl)) (by kernel_rfl) ?w19_314 ?y19_314 ?f19_314 ?r19_314
  case w19_314 => kernel_rfl
  case y19_314 => (intro w hC; go_simp; try with_reducible rfl)
  case f19_314 => (go_simp; try with_reducible rfl)
  refine anyP_take (i := 20) (v := ?v20_315) (a' := ?a20_315) rfl (by kernel_rfl) (by kernel_rfl) (by kernel_rfl) (fun _ _ _ h => h) (by first | exact .inl hC2 | exact .inr (by kernel_rfl)) (by kernel_rfl) ?w20_315 ?y20_315 ?f20_315 ?r20_315
  case w20_315 => kernel_rfl
  case y20_315 => (intro w hC; go_simp; try with_reducible rfl)
  case f20_315 => (go_simp; try with_reducible rfl)
  refine anyP_take (i := 21) (v := ?v21_316) (a' := ?a21_316) rfl (by kernel_rfl) (by kernel_rfl) (by kernel_rfl) (fun _ _ _ h => h) (by first | exact .inl hC2 | exact .inr (by kernel_rfl)) (by kernel_rfl) ?w21_316 ?y21_316 ?f21_316 ?r21_316
  case w21_316 => kernel_rfl
  case y21_316 => (intro w hC; go_simp; try with_reducible rfl)
  case f21_316 => (go_simp; try with_reducible rfl)
  have q1' := HR3.out.c1
  have f1' := HR3.out.f 1 (by decide)
  have q2' := HR3.out.kept1 q2
  obtain ⟨q2a, f2a⟩ := q2'
  refine anyF_one (i := 22) rfl (by kernel_rfl) (by kernel_rfl) (fun K hK => ?_)
  go_simp
  refine hK _ _ ⟨.inr (by kernel_rfl), ?_⟩
  clear hK K
  refine anyP_take (i := 23) (v := ?v23_317) (a' := ?a23_317) rfl (by kernel_rfl) (by kernel_rfl) (by kernel_rfl) (fun _ _ _ h => h) (by first | exact .inl hC2 | exact .inr (by kernel_rfl)) (by kernel_rfl) ?w23_317 ?y23_317 ?f23_317 ?r23_317
  case w23_317 => kernel_rfl
  case y23_317 => (intro w hC; go_simp; try with_reducible rfl)
  case f23_317 => (go_simp; try with_reducible rfl)
  refine anyP_take (i := 24) (v := ?v24_318) (a' := ?a24_318) rfl (by kernel_rfl) (by kernel_rfl) (by kernel_rfl) (fun _ _ _ h => h) (by first | exact .inl hC2 | exact .inr (by kernel_rfl)) (by kernel_rfl) ?w24_318 ?y24_318 ?f24_318 ?r24_318
  case w24_318 => kernel_rfl
  case y24_318 => (intro w hC; go_simp; try with_reducible rfl)
  case f24_318 => (go_simp; try with_reducible rfl)
  refine anyF_one (i := 25) rfl (by kernel_rfl) (by kernel_rfl) (fun K hK => ?_)
  go_simp
  refine hK _ _ ⟨.inr (by kernel_rfl), ?_⟩
  clear hK K q1' f1' q2a f2a
  refine anyF_done (by kernel_rfl) ?_
  have hgr : Hid (w3.grownBy ((w3.setCell ⟨g, 1, none⟩ (.int .i64 q2)).setCell ⟨g, 2, none⟩ (.int .i64 q3)) (some g)) := (grown_set1 g 1 _ w3).trans (grown_set1 g 2 _ _)
  have hRS := Lib.hid (HR3.out.set q2 q3)
  have HPL4 := Lib.hid (HPL3.out.other HF1.out HF2.out hgr.out (by omega) hz3)
  have hr5' := Lib.hid (rangeAt_grown hr5.out hgr.out (by omega) (by omega))
  have T4'' := Lib.hid (there_grown T4'.out hgr.out (by omega) (by omega))
  generalize (w3.setCell ⟨g, 1, none⟩ (.int .i64 q2)).setCell ⟨g, 2, none⟩ (.int .i64 q3) = w4 at *
  have hz4 := hgr.out.size
  have hgf : Hid (w4.grownBy (w4.setCells w.heap.size 0 (pvs q1 A1 n1 c1 A2 n2 c2)) (some w.heap.size)) := grown_set w.heap.size (pvs q1 A1 n1 c1 A2 n2 c2) 0 w4
  have hrng := Lib.hid (World.rangeAt_setCells_same w4 w.heap.size 0 (pvs q1 A1 n1 c1 A2 n2 c2) T4''.out)
  have HPL5 := Lib.hid ((HPL4.out.other HF1.out HF2.out hgf.out (by omega) (by omega)).more (Nat.le_trans (Nat.le_trans hz3 hz4) hgf.out.size))
  have HRF := Lib.hid (hRS.out.grown hgf.out (by omega) (by omega))
  have hB3 := Lib.hid (below_grown (hB2.out.trans (hC2.mono (by omega))) hg5.out (by omega) (by omega))
  have hgw4 : Hid (w.grownBy (w4.setCells w.heap.size 0 (pvs q1 A1 n1 c1 A2 n2 c2)) (some g)) := grown_then ((grown_of_below hB3.out (some g)).trans hgr.out) hgf.out (Nat.le_refl _)
  go_wp2_with (first | (refine wpList_load_mid rfl 27 _ rfl (w.heap.size + 1) 0 rfl (pvs q1 A1 n1 c1 A2 n2 c2) _ hr5'.out Tryd.underlying27 rfl info_plan ?_) | (refine wpList_store_mid rfl 27 _ _ rfl w.heap.size 0 (pvs q1 A1 n1 c1 A2 n2 c2).toArray rfl rfl T4''.out info_plan (pvs_one _ _ _ _ _ _ _) ?_))
  refine bodyPost_ret (results_c rfl _ _ w.heap.size (pvs q1 A1 n1 c1 A2 n2 c2) _ rfl hrng.out Tryd.underlying27 rfl info_plan) rfl ?_
  exact ⟨A1, n1, c1, A2, n2, c2, rfl, HPL5.out, HF1.out.mono (by omega), HF2.out.mono (by omega), HRF.out, hgw4.out⟩
end Go.Proofs.YtpgfnhdaembhmaaDoor
