/- The law MsgPuts walked. -/
import Derived.Test.YtpgfnhdaembhmaaDoorMw
import Derived.Test.YtpgfnhdaembhmaaDoorMo
namespace Go.Proofs.YtpgfnhdaembhmaaDoor
open Go.RowKit Go.Shelf

set_option maxRecDepth 100000 in
set_option maxHeartbeats 8000000 in
theorem mputs_walk (x : Mm.Ms) (l : Lo) (w : World) (hp : MsAt w w.heap.size x l) (ht : Tab w) (hh : HTab w) :
    Calls Tryd.prog 3 #[mv x l] w fun e w' => e = .returned (.bool true) ∧ Below w.heap.size w w' := by
  have hx1 := range_new w (mvs x l) 30
  have hb1 : Hid (Below w.heap.size w (w.alloc (.cells (mvs x l).toArray 30))) := (Below.refl _ w).alloc (Nat.le_refl _) _
  have HT := Lib.hid (fun (W : World) (h : Below w.heap.size w W) => ht.below h (Nat.le_refl _))
  have HH := Lib.hid (fun (W : World) (h : Below w.heap.size w W) => hh.below h (Nat.le_refl _))
  have HD := Lib.hid (fun (W : World) (h : Below w.heap.size w W) => mhead_any W (HT.out W h) (HH.out W h))
  have HPU := Lib.hid (fun (W : World) (h : Below w.heap.size w W) => MPut_any x l w.heap.size W (hp.below h (Nat.le_refl _)) h.size (HT.out W h) (HH.out W h))
  have HRU := Lib.hid (fun (W : World) (h : Below w.heap.size w W) => RMPut_any x l w.heap.size W (hp.below h (Nat.le_refl _)) h.size)
  have HPB := Lib.hid (fun (W : World) (h : Below w.heap.size w W) => MBody_any x l w.heap.size W (hp.below h (Nat.le_refl _)) h.size (HT.out W h))
  have HRB := Lib.hid (fun (W : World) (h : Below w.heap.size w W) => RMBody_any x l w.heap.size W (hp.below h (Nat.le_refl _)) h.size)
  have HRI := Lib.hid (fun (W : World) (h : Below w.heap.size w W) => MRight_any x l w.heap.size W (hp.below h (Nat.le_refl _)) h.size (HT.out W h))
  have HRR := Lib.hid (fun (W : World) (h : Below w.heap.size w W) => RMRight_any x l w.heap.size W (hp.below h (Nat.le_refl _)) h.size)
  have HZ1 : Hid ((w.alloc (.cells (mvs x l).toArray 30)).heap.size = w.heap.size + 1) := World.size_alloc ..
  have HR : Hid (∀ (W : World), Below (w.heap.size + 1) (w.alloc (.cells (mvs x l).toArray 30)) W → W.rangeAt w.heap.size 0 (mvs x l)) := fun W h => range_below hx1 h (Nat.lt_succ_self _)
  have HW : Hid (∀ (W : World), Below (w.heap.size + 1) (w.alloc (.cells (mvs x l).toArray 30)) W → Below w.heap.size w W) := fun W h => hb1.out.trans (h.mono (Nat.le_succ _))
  have HI : Hid ((Tryd.prog.info? 30).map (·.size) = some (mvs x l).length) := info_msg
  unfold mv at HPU HRU HPB HRB HRI HRR ⊢
  generalize mvs x l = L at *
  clear hx1 hp ht hh
  generalize x.put = q at *
  obtain ⟨b, er⟩ := q
  generalize x.bodyE = q at *
  obtain ⟨kd, bd, ee⟩ := q
  generalize x.right = rt at *
  dsimp only at *
  go_enter Tryd.func3, Tryd.ntmps3
  go_wp2_with (go_at_call 9; fail)
  refine (HD.out _ hb1.out).mono ?_
  rintro e w2 ⟨rfl, hb2⟩
  have hC2 : Hid (Below (w.heap.size + 1) (w.alloc (.cells L.toArray 30)) w2) := hb2.mono (by rw [HZ1.out]; exact Nat.le_refl _)
  have hz2 : w.heap.size + 1 ≤ w2.heap.size := by have := hC2.out.size; rwa [HZ1.out] at this
  clear hb2 HD
  go_wp2_with (first | ((with_reducible refine wpList_gate ?_); refine wpList_load_mid rfl 30 _ rfl w.heap.size 0 rfl L _ (HR.out _ hC2.out) Tryd.underlying30 rfl HI.out ?_) | (go_at_call 10; fail))
  refine (HPU.out w2 (HW.out _ hC2.out)).mono ?_
  rintro e w3 ⟨v3, rfl, hown3, hb3⟩
  obtain ⟨A3, c3, rfl, hcp3, hcm3, hrd3⟩ := own_view hown3
  have hC3 := Lib.hid (hC2.out.trans (hb3.mono hz2))
  have hz3 := Nat.le_trans hz2 hb3.size
  have HRD3 := Lib.hid hrd3
  clear hb3 hC2 HPU hown3 hrd3
  go_wp2_with (first | ((with_reducible refine wpList_gate ?_); refine wpList_load_mid rfl 30 _ rfl w.heap.size 0 rfl L _ (HR.out _ hC3.out) Tryd.underlying30 rfl HI.out ?_) | (go_at_call 11; fail))
  refine (HRU.out w3 (HW.out _ hC3.out)).mono ?_
  rintro e w4 ⟨v4, rfl, hown4, hb4⟩
  obtain ⟨A4, c4, rfl, hcp4, hcm4, hrd4⟩ := own_view hown4
  have hC4 := Lib.hid (hC3.out.trans (hb4.mono hz3))
  have hz4 := Nat.le_trans hz3 hb4.size
  have HRD4 := Lib.hid hrd4
  have HRD3b := Lib.hid ((HRD3.out.below hb4).more hb4.size)
  clear hb4 hC3 HRU hown4 hrd4 HRD3
  go_wp2_with (first | ((with_reducible refine wpList_gate ?_); refine wpList_load_mid rfl 30 _ rfl w.heap.size 0 rfl L _ (HR.out _ hC4.out) Tryd.underlying30 rfl HI.out ?_) | (go_at_call 12; fail))
  refine (HPB.out w4 (HW.out _ hC4.out)).mono ?_
  rintro e w5 ⟨v5, rfl, hown5, hb5⟩
  obtain ⟨A5, c5, rfl, hcp5, hcm5, hrd5⟩ := own_view hown5
  have hC5 := Lib.hid (hC4.out.trans (hb5.mono hz4))
  have hz5 := Nat.le_trans hz4 hb5.size
  have HRD5 := Lib.hid hrd5
  have HRD4b := Lib.hid ((HRD4.out.below hb5).more hb5.size)
  have HRD3c := Lib.hid ((HRD3b.out.below hb5).more hb5.size)
  clear hb5 hC4 HPB hown5 hrd5 HRD4 HRD3b
  go_wp2_with (first | ((with_reducible refine wpList_gate ?_); refine wpList_load_mid rfl 30 _ rfl w.heap.size 0 rfl L _ (HR.out _ hC5.out) Tryd.underlying30 rfl HI.out ?_) | (go_at_call 13; fail))
  refine (HRB.out w5 (HW.out _ hC5.out)).mono ?_
  rintro e w6 ⟨v6, rfl, hown6, hb6⟩
  obtain ⟨A6, c6, rfl, hcp6, hcm6, hrd6⟩ := own_view hown6
  have hC6 := Lib.hid (hC5.out.trans (hb6.mono hz5))
  have hz6 := Nat.le_trans hz5 hb6.size
  have HRD6 := Lib.hid hrd6
  have HRD5b := Lib.hid ((HRD5.out.below hb6).more hb6.size)
  have HRD4c := Lib.hid ((HRD4b.out.below hb6).more hb6.size)
  have HRD3d := Lib.hid ((HRD3c.out.below hb6).more hb6.size)
  clear hb6 hC5 HRB hown6 hrd6 HRD5 HRD4b HRD3c
  have hST : Hid (((strOfNums b).toList == (strOfNums b).toList) = true) := by show _ = _; rw [beq_self_eq_true]
  have hSU : Hid (((strOfNums bd).toList == (strOfNums bd).toList) = true) := by show _ = _; rw [beq_self_eq_true]
  have hEE : (er == er) = true := by rw [beq_self_eq_true]
  have hEF : (ee == ee) = true := by rw [beq_self_eq_true]
  have hEK : (kd == kd) = true := by rw [beq_self_eq_true]
  have hRT : (rt == rt) = true := by rw [beq_self_eq_true]
  go_wp2_with fail
  refine region_C (fun W => Below w6.heap.size w6 W) (by kernel_rfl) ?_
  have hC : Below w6.heap.size w6 w6.drew := (Below.refl _ _).drew
  have HWC := Lib.hid (fun W (h : Below w6.heap.size w6 W) => HW.out _ (hC6.out.trans (h.mono hz6)))
  have HS3 := Lib.hid (fun W (h : Below w6.heap.size w6 W) => str_of (cap := c3) (HRD3d.out.below h) rfl)
  have HS4 := Lib.hid (fun W (h : Below w6.heap.size w6 W) => str_of (cap := c4) (HRD4c.out.below h) rfl)
  have HS5 := Lib.hid (fun W (h : Below w6.heap.size w6 W) => str_of (cap := c5) (HRD5b.out.below h) rfl)
  have HS6 := Lib.hid (fun W (h : Below w6.heap.size w6 W) => str_of (cap := c6) (HRD6.out.below h) rfl)
  refine anyC_take (i := 0) (v := ?v0_1) (a' := ?a0_1) rfl (by kernel_rfl) (by kernel_rfl) (by kernel_rfl) (fun _ _ _ h => h) hC ?w0_1 ?y0_1 ?f0_1 ?r0_1
  case w0_1 => kernel_rfl
  case y0_1 => (intro w hC; go_simp; try with_reducible rfl)
  case f0_1 => (go_simp; try with_reducible rfl)
  refine anyC_take (i := 1) (v := ?v1_2) (a' := ?a1_2) rfl (by kernel_rfl) (by kernel_rfl) (by kernel_rfl) (fun _ _ _ h => h) hC ?w1_2 ?y1_2 ?f1_2 ?r1_2
  case w1_2 => kernel_rfl
  case y1_2 => (intro w hC; go_simp; try with_reducible rfl)
  case f1_2 => (go_simp; try with_reducible rfl)
  refine anyC_take (i := 2) (v := ?v2_3) (a' := ?a2_3) rfl (by kernel_rfl) (by kernel_rfl) (by kernel_rfl) (fun _ _ _ h => h) hC ?w2_3 ?y2_3 ?f2_3 ?r2_3
  case w2_3 => kernel_rfl
  case y2_3 => (intro W hW; exact by refine exec_load 30 (.tmp 1) ?_ w.heap.size ?_ L _ (HR.out _ (hC6.out.trans (hW.mono hz6))) Tryd.underlying30 rfl HI.out <;> rfl)
  case f2_3 => (go_simp; try with_reducible rfl)
  refine anyC_take (i := 4) (v := ?v4_4) (a' := ?a4_4) rfl (by kernel_rfl) (by kernel_rfl) (by kernel_rfl) (fun _ _ _ h => h) hC ?w4_4 ?y4_4 ?f4_4 ?r4_4
  case w4_4 => kernel_rfl
  case y4_4 => (intro W hW; exact by refine exec_load 30 (.tmp 1) ?_ w.heap.size ?_ L _ (HR.out _ (hC6.out.trans (hW.mono hz6))) Tryd.underlying30 rfl HI.out <;> rfl)
  case f4_4 => (go_simp; try with_reducible rfl)
  refine anyC_one (i := 3) rfl (by kernel_rfl) (by kernel_rfl) (fun K hK => ?_)
  go_simp
  refine (HRI.out _ (HWC.out _ hC)).mono ?_
  rintro e w7 ⟨rfl, hb7⟩
  have hC7 : Below w6.heap.size w6 w7 := hC.trans (hb7.mono (Nat.le_refl _))
  refine hK _ _ ⟨hC7, ?_⟩
  clear hK K hb7 hC
  refine anyC_one (i := 5) rfl (by kernel_rfl) (by kernel_rfl) (fun K hK => ?_)
  go_simp
  refine (HRR.out w7 (HWC.out _ hC7)).mono ?_
  rintro e w8 ⟨rfl, hb8⟩
  have hC8 : Below w6.heap.size w6 w8 := hC7.trans (hb8.mono hC7.size)
  refine hK _ _ ⟨hC8, ?_⟩
  clear hK K hb8 hC7
  refine anyC_take (i := 6) (v := ?v6_5) (a' := ?a6_5) rfl (by kernel_rfl) (by kernel_rfl) (by kernel_rfl) (fun _ _ _ h => h) hC8 ?w6_5 ?y6_5 ?f6_5 ?r6_5
  case w6_5 => kernel_rfl
  case y6_5 => (intro w hC; go_simp; try with_reducible rfl)
  case f6_5 => (go_simp; try with_reducible rfl)
  refine anyC_take (i := 7) (v := ?v7_6) (a' := ?a7_6) rfl (by kernel_rfl) (by kernel_rfl) (by kernel_rfl) (fun _ _ _ h => h) hC8 ?w7_6 ?y7_6 ?f7_6 ?r7_6
  case w7_6 => kernel_rfl
  case y7_6 => (intro w hC; go_simp; try with_reducible rfl)
  case f7_6 => (go_simp; try with_reducible rfl)
  refine anyC_take (i := 8) (v := ?v8_7) (a' := ?a8_7) rfl (by kernel_rfl) (by kernel_rfl) (by kernel_rfl) (fun _ _ _ h => h) hC8 ?w8_7 ?y8_7 ?f8_7 ?r8_7
  case w8_7 => kernel_rfl
  case y8_7 => (intro w hC; go_simp; try with_reducible rfl)
  case f8_7 => (go_simp; try with_reducible rfl)
  refine anyC_take (i := 9) (v := ?v9_8) (a' := ?a9_8) rfl (by kernel_rfl) (by kernel_rfl) (by kernel_rfl) (fun _ _ _ h => h) hC8 ?w9_8 ?y9_8 ?f9_8 ?r9_8
  case w9_8 => kernel_rfl
  case y9_8 => (intro w hC; go_simp; try with_reducible rfl)
  case f9_8 => (go_simp; try with_reducible rfl)
  refine anyC_take (i := 11) (v := ?v11_9) (a' := ?a11_9) rfl (by kernel_rfl) (by kernel_rfl) (by kernel_rfl) (fun _ _ _ h => h) hC8 ?w11_9 ?y11_9 ?f11_9 ?r11_9
  case w11_9 => kernel_rfl
  case y11_9 => (intro w hC; go_simp; try with_reducible rfl)
  case f11_9 => (go_simp; try with_reducible rfl)
  refine anyC_take (i := 10) (v := ?v10_10) (a' := ?a10_10) rfl (by kernel_rfl) (by kernel_rfl) (by kernel_rfl) (fun _ _ _ h => h) hC8 ?w10_10 ?y10_10 ?f10_10 ?r10_10
  case w10_10 => kernel_rfl
  case y10_10 => (intro w hC; have h4 := HS3.out w hC; go_simp; try with_reducible rfl)
  case f10_10 => (go_simp; try with_reducible rfl)
  refine anyC_take (i := 12) (v := ?v12_11) (a' := ?a12_11) rfl (by kernel_rfl) (by kernel_rfl) (by kernel_rfl) (fun _ _ _ h => h) hC8 ?w12_11 ?y12_11 ?f12_11 ?r12_11
  case w12_11 => kernel_rfl
  case y12_11 => (intro w hC; have h4 := HS4.out w hC; go_simp; try with_reducible rfl)
  case f12_11 => (go_simp; try with_reducible rfl)
  refine anyC_take (i := 13) (v := ?v13_12) (a' := ?a13_12) rfl (by kernel_rfl) (by kernel_rfl) (by kernel_rfl) (fun _ _ _ h => h) hC8 ?w13_12 ?y13_12 ?f13_12 ?r13_12
  case w13_12 => kernel_rfl
  case y13_12 => (intro w hC; have h4 := hST.out; go_simp; try with_reducible rfl)
  case f13_12 => (go_simp; try with_reducible rfl)
  refine anyC_take (i := 14) (v := ?v14_13) (a' := ?a14_13) rfl (by kernel_rfl) (by kernel_rfl) (by kernel_rfl) (fun _ _ _ h => h) hC8 ?w14_13 ?y14_13 ?f14_13 ?r14_13
  case w14_13 => kernel_rfl
  case y14_13 => (intro w hC; go_simp; try with_reducible rfl)
  case f14_13 => (go_simp; try with_reducible rfl)
  refine anyC_take (i := 15) (v := ?v15_14) (a' := ?a15_14) rfl (by kernel_rfl) (by kernel_rfl) (by kernel_rfl) (fun _ _ _ h => h) hC8 ?w15_14 ?y15_14 ?f15_14 ?r15_14
  case w15_14 => kernel_rfl
  case y15_14 => (intro w hC; go_simp; try with_reducible rfl)
  case f15_14 => (go_simp; try with_reducible rfl)
  refine anyC_take (i := 16) (v := ?v16_15) (a' := ?a16_15) rfl (by kernel_rfl) (by kernel_rfl) (by kernel_rfl) (fun _ _ _ h => h) hC8 ?w16_15 ?y16_15 ?f16_15 ?r16_15
  case w16_15 => kernel_rfl
  case y16_15 => (intro w hC; go_simp; try with_reducible rfl)
  case f16_15 => (go_simp; try with_reducible rfl)
  refine anyC_take (i := 17) (v := ?v17_16) (a' := ?a17_16) rfl (by kernel_rfl) (by kernel_rfl) (by kernel_rfl) (fun _ _ _ h => h) hC8 ?w17_16 ?y17_16 ?f17_16 ?r17_16
  case w17_16 => kernel_rfl
  case y17_16 => (intro w hC; go_simp; try with_reducible rfl)
  case f17_16 => (go_simp; try with_reducible rfl)
  refine anyC_take (i := 18) (v := ?v18_17) (a' := ?a18_17) rfl (by kernel_rfl) (by kernel_rfl) (by kernel_rfl) (fun _ _ _ h => h) hC8 ?w18_17 ?y18_17 ?f18_17 ?r18_17
  case w18_17 => kernel_rfl
  case y18_17 => (intro w hC; go_simp; try with_reducible rfl)
  case f18_17 => (go_simp; try with_reducible rfl)
  refine anyC_take (i := 19) (v := ?v19_18) (a' := ?a19_18) rfl (by kernel_rfl) (by kernel_rfl) (by kernel_rfl) (fun _ _ _ h => h) hC8 ?w19_18 ?y19_18 ?f19_18 ?r19_18
  case w19_18 => kernel_rfl
  case y19_18 => (intro w hC; go_simp; try with_reducible rfl)
  case f19_18 => (go_simp; try with_reducible rfl)
  refine anyC_take (i := 20) (v := ?v20_19) (a' := ?a20_19) rfl (by kernel_rfl) (by kernel_rfl) (by kernel_rfl) (fun _ _ _ h => h) hC8 ?w20_19 ?y20_19 ?f20_19 ?r20_19
  case w20_19 => kernel_rfl
  case y20_19 => (intro w hC; go_simp; try with_reducible rfl)
  case f20_19 => (go_simp; try with_reducible rfl)
  refine anyC_take (i := 21) (v := ?v21_20) (a' := ?a21_20) rfl (by kernel_rfl) (by kernel_rfl) (by kernel_rfl) (fun _ _ _ h => h) hC8 ?w21_20 ?y21_20 ?f21_20 ?r21_20
  case w21_20 => kernel_rfl
  case y21_20 => (intro w hC; go_simp; try with_reducible rfl)
  case f21_20 => (go_simp; try with_reducible rfl)
  refine anyC_take (i := 22) (v := ?v22_21) (a' := ?a22_21) rfl (by kernel_rfl) (by kernel_rfl) (by kernel_rfl) (fun _ _ _ h => h) hC8 ?w22_21 ?y22_21 ?f22_21 ?r22_21
  case w22_21 => kernel_rfl
  case y22_21 => (intro w hC; go_simp; try with_reducible rfl)
  case f22_21 => (go_simp; try with_reducible rfl)
  refine anyC_take (i := 23) (v := ?v23_22) (a' := ?a23_22) rfl (by kernel_rfl) (by kernel_rfl) (by kernel_rfl) (fun _ _ _ h => h) hC8 ?w23_22 ?y23_22 ?f23_22 ?r23_22
  case w23_22 => kernel_rfl
  case y23_22 => (intro w hC; go_simp; try with_reducible rfl)
  case f23_22 => (go_simp; try with_reducible rfl)
  refine anyC_take (i := 24) (v := ?v24_23) (a' := ?a24_23) rfl (by kernel_rfl) (by kernel_rfl) (by kernel_rfl) (fun _ _ _ h => h) hC8 ?w24_23 ?y24_23 ?f24_23 ?r24_23
  case w24_23 => kernel_rfl
  case y24_23 => (intro w hC; go_simp; try with_reducible rfl)
  case f24_23 => (go_simp; try with_reducible rfl)
  refine anyC_take (i := 25) (v := ?v25_24) (a' := ?a25_24) rfl (by kernel_rfl) (by kernel_rfl) (by kernel_rfl) (fun _ _ _ h => h) hC8 ?w25_24 ?y25_24 ?f25_24 ?r25_24
  case w25_24 => kernel_rfl
  case y25_24 => (intro w hC; go_simp; try with_reducible rfl)
  case f25_24 => (go_simp; try with_reducible rfl)
  refine anyC_take (i := 26) (v := ?v26_25) (a' := ?a26_25) rfl (by kernel_rfl) (by kernel_rfl) (by kernel_rfl) (fun _ _ _ h => h) hC8 ?w26_25 ?y26_25 ?f26_25 ?r26_25
  case w26_25 => kernel_rfl
  case y26_25 => (intro w hC; go_simp; try with_reducible rfl)
  case f26_25 => (go_simp; try with_reducible rfl)
  refine anyC_take (i := 28) (v := ?v28_26) (a' := ?a28_26) rfl (by kernel_rfl) (by kernel_rfl) (by kernel_rfl) (fun _ _ _ h => h) hC8 ?w28_26 ?y28_26 ?f28_26 ?r28_26
  case w28_26 => kernel_rfl
  case y28_26 => (intro w hC; go_simp; try with_reducible rfl)
  case f28_26 => (go_simp; try with_reducible rfl)
  refine anyC_take (i := 27) (v := ?v27_27) (a' := ?a27_27) rfl (by kernel_rfl) (by kernel_rfl) (by kernel_rfl) (fun _ _ _ h => h) hC8 ?w27_27 ?y27_27 ?f27_27 ?r27_27
  case w27_27 => kernel_rfl
  case y27_27 => (intro w hC; have h4 := HS5.out w hC; go_simp; try with_reducible rfl)
  case f27_27 => (go_simp; try with_reducible rfl)
  refine anyC_take (i := 29) (v := ?v29_28) (a' := ?a29_28) rfl (by kernel_rfl) (by kernel_rfl) (by kernel_rfl) (fun _ _ _ h => h) hC8 ?w29_28 ?y29_28 ?f29_28 ?r29_28
  case w29_28 => kernel_rfl
  case y29_28 => (intro w hC; have h4 := HS6.out w hC; go_simp; try with_reducible rfl)
  case f29_28 => (go_simp; try with_reducible rfl)
  refine anyC_take (i := 30) (v := ?v30_29) (a' := ?a30_29) rfl (by kernel_rfl) (by kernel_rfl) (by kernel_rfl) (fun _ _ _ h => h) hC8 ?w30_29 ?y30_29 ?f30_29 ?r30_29
  case w30_29 => kernel_rfl
  case y30_29 => (intro w hC; have h4 := hSU.out; go_simp; try with_reducible rfl)
  case f30_29 => (go_simp; try with_reducible rfl)
  refine anyC_take (i := 31) (v := ?v31_30) (a' := ?a31_30) rfl (by kernel_rfl) (by kernel_rfl) (by kernel_rfl) (fun _ _ _ h => h) hC8 ?w31_30 ?y31_30 ?f31_30 ?r31_30
  case w31_30 => kernel_rfl
  case y31_30 => (intro w hC; go_simp; try with_reducible rfl)
  case f31_30 => (go_simp; try with_reducible rfl)
  refine anyC_take (i := 32) (v := ?v32_31) (a' := ?a32_31) rfl (by kernel_rfl) (by kernel_rfl) (by kernel_rfl) (fun _ _ _ h => h) hC8 ?w32_31 ?y32_31 ?f32_31 ?r32_31
  case w32_31 => kernel_rfl
  case y32_31 => (intro w hC; go_simp; try with_reducible rfl)
  case f32_31 => (go_simp; try with_reducible rfl)
  refine anyC_take (i := 33) (v := ?v33_32) (a' := ?a33_32) rfl (by kernel_rfl) (by kernel_rfl) (by kernel_rfl) (fun _ _ _ h => h) hC8 ?w33_32 ?y33_32 ?f33_32 ?r33_32
  case w33_32 => kernel_rfl
  case y33_32 => (intro w hC; go_simp; try with_reducible rfl)
  case f33_32 => (go_simp; try with_reducible rfl)
  refine anyC_take (i := 34) (v := ?v34_33) (a' := ?a34_33) rfl (by kernel_rfl) (by kernel_rfl) (by kernel_rfl) (fun _ _ _ h => h) hC8 ?w34_33 ?y34_33 ?f34_33 ?r34_33
  case w34_33 => kernel_rfl
  case y34_33 => (intro w hC; go_simp; try with_reducible rfl)
  case f34_33 => (go_simp; try with_reducible rfl)
  refine anyC_take (i := 35) (v := ?v35_34) (a' := ?a35_34) rfl (by kernel_rfl) (by kernel_rfl) (by kernel_rfl) (fun _ _ _ h => h) hC8 ?w35_34 ?y35_34 ?f35_34 ?r35_34
  case w35_34 => kernel_rfl
  case y35_34 => (intro w hC; go_simp; try with_reducible rfl)
  case f35_34 => (go_simp; try with_reducible rfl)
  refine anyC_take (i := 36) (v := ?v36_35) (a' := ?a36_35) rfl (by kernel_rfl) (by kernel_rfl) (by kernel_rfl) (fun _ _ _ h => h) hC8 ?w36_35 ?y36_35 ?f36_35 ?r36_35
  case w36_35 => kernel_rfl
  case y36_35 => (intro w hC; go_simp; try with_reducible rfl)
  case f36_35 => (go_simp; try with_reducible rfl)
  refine anyC_take (i := 37) (v := ?v37_36) (a' := ?a37_36) rfl (by kernel_rfl) (by kernel_rfl) (by kernel_rfl) (fun _ _ _ h => h) hC8 ?w37_36 ?y37_36 ?f37_36 ?r37_36
  case w37_36 => kernel_rfl
  case y37_36 => (intro w hC; go_simp; try with_reducible rfl)
  case f37_36 => (go_simp; try with_reducible rfl)
  refine anyC_done (by kernel_rfl) ?_
  go_wp2
  go_ret
  exact ⟨rfl, HWC.out _ hC8⟩
end Go.Proofs.YtpgfnhdaembhmaaDoor
