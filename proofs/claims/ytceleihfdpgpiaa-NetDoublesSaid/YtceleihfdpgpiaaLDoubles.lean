/- A message that is doubled stands behind all others once more. -/
import Derived.Test.YtceleihfdpgpiaaNp
namespace Go.Proofs.Ytceleihfdpgpiaa
open Go.RowKit Go.Shelf Km Kb Kz

set_option maxRecDepth 100000 in
set_option maxHeartbeats 4000000 in
theorem doubles_walk (a : Option Addr) (len cap : Nat) (bs : List (List Int)) (a1 : Int) (W : World) (h : RowsAt W a len cap bs) (hw : (Lit.int .u8 a1).wf = true) :
    Calls Try.prog 6 #[.slice a len cap, .int .u8 a1] W fun e W' => e = .returned (.bool true) ∧ Below W.heap.size W W' := by
  have HN := Lib.hid h.1
  have hcl := h.2.1
  have hm := h.2.2.1
  unfold maxLen at hm
  have HR := Lib.hid h.2.2.2
  clear h
  have hu : 0 ≤ a1 ∧ a1 ≤ 255 := wf_u8 (xs := [a1]) (fun n hn => by rw [List.mem_singleton.1 hn]; exact hw) a1 (List.mem_singleton.2 rfl)
  clear hw
  obtain ⟨m, rfl⟩ := Int.eq_ofNat_of_zero_le hu.1
  go_enter Try.func6, Try.ntmps6
  go_wp2_with (go_at_call 7; fail)
  refine (head_any W).mono ?_
  rintro e w1 ⟨rfl, hb1⟩
  go_wp2_with (go_at_call 8; fail)
  refine (new_own W w1 hb1).mono ?_
  rintro e w2 ⟨rfl, j2⟩
  by_cases h0 : len = 0
  · subst h0
    go_wp2
    go_ret
    exact ⟨rfl, j2.bel⟩
  have d0 : ((len : Int) == 0) = false := by simp; omega
  by_cases hlen : len ≤ 300
  · have d1 : decide ((300 : Int) < (len : Int)) = false := by simp; omega
    have J := Lib.hid j2
    clear j2
    go_wp2_with fail
    go_loopw [7] (fun ix wr => ∃ (k : Nat), ix = .int .i64 (k : Int) ∧ k ≤ len ∧ Hid (NOwn W wr w1.heap.size (bs.take k))) (fun ix _ => len - (intOf ix).toNat)
    case atStart => exact ⟨0, rfl, by omega, by rw [List.take_zero]; exact J⟩
    case round =>
      obtain ⟨k, rfl, hk, JR⟩ := hrel
      by_cases hlt : k < len
      · have d1 : decide ((k : Int) < (len : Int)) = true := by simpa using hlt
        have d3 : (k : Int) < (len : Int) := by omega
        obtain ⟨b, hb⟩ : ∃ b, bs[k]? = some b := ⟨bs[k]'(by rw [HN.out]; exact hlt), List.getElem?_eq_getElem _⟩
        obtain ⟨ad, c, rfl, hbk, hcl2, hrow⟩ := HR.out k b hb
        have hcw : wr.cell? (ad.add k) = some c := (JR.out.bel.cell (by rw [addr_add_block]; exact hbk)).trans hcl2
        have HS := Lib.hid (sends JR.out hrow)
        rw [Nm.send_lt (by rw [List.length_take]; omega), show bs.take k ++ [b] = bs.take (k + 1) by rw [List.take_add_one, hb]; rfl] at HS
        dsimp only at HS
        obtain ⟨Ac, cc, rfl, -, -, -, -⟩ := hrow.form
        clear hb hrow hcl2
        go_wp2_with (go_at_call 9; fail)
        refine HS.out.mono ?_
        rintro e w3 ⟨rfl, j3⟩
        have J3 := Lib.hid j3
        clear j3 HS
        go_wp2_with fail
        go_roundw
        case rel => exact ⟨k + 1, by go_num, by omega, J3⟩
        case measure => simp [intOf]; omega
      · have hkl : k = len := by omega
        have JB : Hid (NOwn W wr w1.heap.size bs) := by
          have e : bs.take k = bs := List.take_of_length_le (by rw [HN.out]; omega)
          rw [e] at JR
          exact JR
        have d1 : decide ((k : Int) < (len : Int)) = false := by simp; omega
        clear hkl JR
        obtain ⟨q, hq, hql⟩ : ∃ q : Nat, (m : Int).emod (len : Int) = (q : Int) ∧ q < len := ⟨m % len, rfl, Nat.mod_lt _ (by omega)⟩
        have hrem : (m : Int).tmod (len : Int) = (q : Int) := by rw [Int.tmod_eq_emod_of_nonneg (by omega)]; exact hq
        have hrem2 : wrap64 ((m : Int).tmod (len : Int)) = (q : Int) := by rw [hrem]; unfold wrap64; omega
        have d5 : ((len : Int) == 0) = false := by simp; omega
        have d6 : (q : Int) < (len : Int) := by omega
        have hsub : IntKind.i64.wrap ((len : Int) - 1) = (len : Int) - 1 := by rw [IntKind.wrap_i64]; omega
        obtain ⟨b, hb⟩ : ∃ b, bs[q]? = some b := ⟨bs[q]'(by rw [HN.out]; exact hql), List.getElem?_eq_getElem _⟩
        obtain ⟨ad, c, rfl, hbk, hcl2, hrow⟩ := HR.out q b hb
        have hle : ∀ x ∈ bs, x.length ≤ 140737488355328 := fun x hx => by
          obtain ⟨i, hi, rfl⟩ := List.getElem_of_mem hx
          obtain ⟨_, _, _, _, _, q⟩ := HR.out i _ (List.getElem?_eq_getElem hi)
          exact Nat.le_trans q.le (by omega)
        have ok1 : Nm.Ok bs := ⟨by rw [HN.out]; omega, hle⟩
        have ok2 : Nm.Ok (bs ++ [b]) := ⟨by rw [List.length_append, HN.out]; simp; omega, fun x hx => by
          rcases List.mem_append.1 hx with r | r
          · exact hle x r
          · rw [List.mem_singleton.1 r]; exact hle b (List.mem_of_getElem? hb)⟩
        have p1 : Nm.pick bs (q : Int) = some b := by rw [Nm.pick_nat]; exact hb
        have p2 : Nm.pick (bs ++ [b]) (len : Int) = some b := by rw [Nm.pick_nat, List.getElem?_append_right (by rw [HN.out]; omega), HN.out, Nat.sub_self]; rfl
        have p3 : Nm.less (bs ++ [b]) (len : Int) = bs := by
          rw [Nm.less_some p2, Int.toNat_natCast]
          unfold er
          rw [List.take_append_of_le_length (by rw [HN.out]; omega), List.take_of_length_le (by rw [HN.out]; omega), List.drop_of_length_le (by rw [List.length_append, HN.out]; simp), List.append_nil]
        have p4 : ((Nm.less bs (q : Int)).length : Int) = (len : Int) - 1 := by rw [Nm.len_less, p1, HN.out]; rfl
        obtain ⟨S0, o0⟩ := One.of JB.out
        have HD := Lib.hid (dup_one o0 ok1 (q : Int))
        rw [Nm.dup_some p1, Nm.send_lt (by rw [HN.out]; omega)] at HD
        dsimp only at HD
        obtain ⟨Ac, cc, rfl, -, -, -, hrc⟩ := hrow.form
        clear o0 JB
        go_wp2_with (go_at_call 14; fail)
        refine HD.out.mono ?_
        rintro e w3 ⟨rfl, S3, j3, -, -⟩
        have HT := Lib.hid (take_one j3 ok2 (len : Int))
        rw [p2, p3, show (some b).getD [] = b from rfl, show (some b).isSome = true from rfl] at HT
        clear j3 HD
        go_wp2_with (go_at_call 11; fail)
        refine HT.out.mono ?_
        rintro e w4 ⟨v4, rfl, hown4, ⟨S4, j4, -⟩, -⟩
        have HT2 := Lib.hid (take_one j4 ok1 (q : Int))
        rw [p1, show (some b).getD [] = b from rfl, show (some b).isSome = true from rfl] at HT2
        have HO4 := Lib.hid (fun (W : World) (k : Kp (Nw (fun _ => False) v4) w4 W) => k.own hown4 (fun b q => .inr q))
        obtain ⟨A4, c4, rfl, -, -, -⟩ := own_view hown4
        clear HT j4 hown4
        go_wp2_with (go_at_call 11; fail)
        refine HT2.out.mono ?_
        rintro e w5 ⟨v5, rfl, hown5, ⟨S5, j5, -⟩, k5⟩
        have r4 := Rd.of_own (HO4.out _ k5)
        obtain ⟨A5, c5, rfl, -, -, r5⟩ := own_view hown5
        have HL := Lib.hid (fun (W : World) (q : Below w5.heap.size w5 W) => len_one (j5.below q))
        rw [p4] at HL
        have hcw : w5.cell? (ad.add q) = some (.slice Ac b.length cc) := (j5.bel.cell (by rw [addr_add_block]; exact hbk)).trans hcl2
        have hlt5 : (ad.add q).block < w5.heap.size := by rw [addr_add_block]; exact Nat.lt_of_lt_of_le hbk j5.bel.size
        have HR4 := Lib.hid (fun (W : World) (q : Below w5.heap.size w5 W) => str_of (cap := c4) (r4.below q) rfl)
        have HR5 := Lib.hid (fun (W : World) (q : Below w5.heap.size w5 W) => str_of (cap := c5) (r5.below q) rfl)
        have HR6 := Lib.hid (fun (W : World) (q : Below w5.heap.size w5 W) => str_of (cap := cc) ((hrc.below j5.bel).below (q.mono j5.bel.size)) rfl)
        have hbq : ((strOfNums b).toList == (strOfNums b).toList) = true := by simp
        have HB5 := Lib.hid j5.bel
        clear hb hrow hcl2 hown5 hrc j5 r4 r5 HT2 HO4 k5 hq hrem hle
        go_wp2_with fail
        refine region_C (fun W => Below w5.heap.size w5 W) (by kernel_rfl) ?_
        have hC : Below w5.heap.size w5 w5.drew := (Below.refl _ _).drew
        refine anyC_take (i := 0) (v := ?v0_1) (a' := ?a0_1) rfl (by kernel_rfl) (by kernel_rfl) (by kernel_rfl) (fun _ _ _ h => h) hC ?w0_1 ?y0_1 ?f0_1 ?r0_1
        case w0_1 => kernel_rfl
        case y0_1 => (intro w hC; go_simp; try with_reducible rfl)
        case f0_1 => (go_simp; try with_reducible rfl)
        refine anyC_take (i := 1) (v := ?v1_2) (a' := ?a1_2) rfl (by kernel_rfl) (by kernel_rfl) (by kernel_rfl) (fun _ _ _ h => h) hC ?w1_2 ?y1_2 ?f1_2 ?r1_2
        case w1_2 => kernel_rfl
        case y1_2 => (intro w hC; go_simp; try with_reducible rfl)
        case f1_2 => (go_simp; try with_reducible rfl)
        refine anyC_take (i := 2) (v := ?v2_3) (a' := ?a2_3) rfl (by kernel_rfl) (by kernel_rfl) (by kernel_rfl) (fun _ _ _ h => h) hC ?w2_3 ?y2_3 ?f2_3 ?r2_3
        case w2_3 => kernel_rfl
        case y2_3 => (intro w hC; go_simp; try with_reducible rfl)
        case f2_3 => (go_simp; try with_reducible rfl)
        refine anyC_take (i := 3) (v := ?v3_4) (a' := ?a3_4) rfl (by kernel_rfl) (by kernel_rfl) (by kernel_rfl) (fun _ _ _ h => h) hC ?w3_4 ?y3_4 ?f3_4 ?r3_4
        case w3_4 => kernel_rfl
        case y3_4 => (intro w hC; go_simp; try with_reducible rfl)
        case f3_4 => (go_simp; try with_reducible rfl)
        refine anyC_take (i := 4) (v := ?v4_5) (a' := ?a4_5) rfl (by kernel_rfl) (by kernel_rfl) (by kernel_rfl) (fun _ _ _ h => h) hC ?w4_5 ?y4_5 ?f4_5 ?r4_5
        case w4_5 => kernel_rfl
        case y4_5 => (intro w hC; go_simp; try with_reducible rfl)
        case f4_5 => (go_simp; try with_reducible rfl)
        refine anyC_take (i := 5) (v := ?v5_6) (a' := ?a5_6) rfl (by kernel_rfl) (by kernel_rfl) (by kernel_rfl) (fun _ _ _ h => h) hC ?w5_6 ?y5_6 ?f5_6 ?r5_6
        case w5_6 => kernel_rfl
        case y5_6 => (intro w hC; go_simp; try with_reducible rfl)
        case f5_6 => (go_simp; try with_reducible rfl)
        refine anyC_take (i := 6) (v := ?v6_7) (a' := ?a6_7) rfl (by kernel_rfl) (by kernel_rfl) (by kernel_rfl) (fun _ _ _ h => h) hC ?w6_7 ?y6_7 ?f6_7 ?r6_7
        case w6_7 => kernel_rfl
        case y6_7 => (intro w hC; go_simp; try with_reducible rfl)
        case f6_7 => (go_simp; try with_reducible rfl)
        refine anyC_take (i := 7) (v := ?v7_8) (a' := ?a7_8) rfl (by kernel_rfl) (by kernel_rfl) (by kernel_rfl) (fun _ _ _ h => h) hC ?w7_8 ?y7_8 ?f7_8 ?r7_8
        case w7_8 => kernel_rfl
        case y7_8 => (intro w hC; go_simp; try with_reducible rfl)
        case f7_8 => (go_simp; try with_reducible rfl)
        refine anyC_take (i := 8) (v := ?v8_9) (a' := ?a8_9) rfl (by kernel_rfl) (by kernel_rfl) (by kernel_rfl) (fun _ _ _ h => h) hC ?w8_9 ?y8_9 ?f8_9 ?r8_9
        case w8_9 => kernel_rfl
        case y8_9 => (intro w hC; go_simp; try with_reducible rfl)
        case f8_9 => (go_simp; try with_reducible rfl)
        refine anyC_take (i := 9) (v := ?v9_10) (a' := ?a9_10) rfl (by kernel_rfl) (by kernel_rfl) (by kernel_rfl) (fun _ _ _ h => h) hC ?w9_10 ?y9_10 ?f9_10 ?r9_10
        case w9_10 => kernel_rfl
        case y9_10 => (intro w hC; go_simp; try with_reducible rfl)
        case f9_10 => (go_simp; try with_reducible rfl)
        refine anyC_take (i := 10) (v := ?v10_11) (a' := ?a10_11) rfl (by kernel_rfl) (by kernel_rfl) (by kernel_rfl) (fun _ _ _ h => h) hC ?w10_11 ?y10_11 ?f10_11 ?r10_11
        case w10_11 => kernel_rfl
        case y10_11 => (intro w hC; have h4 := HR4.out w hC; go_simp; try with_reducible rfl)
        case f10_11 => (go_simp; try with_reducible rfl)
        refine anyC_take (i := 11) (v := ?v11_12) (a' := ?a11_12) rfl (by kernel_rfl) (by kernel_rfl) (by kernel_rfl) (fun _ _ _ h => h) hC ?w11_12 ?y11_12 ?f11_12 ?r11_12
        case w11_12 => kernel_rfl
        case y11_12 => (intro w hC; go_simp; try with_reducible rfl)
        case f11_12 => (go_simp; try with_reducible rfl)
        refine anyC_take (i := 12) (v := ?v12_13) (a' := ?a12_13) rfl (by kernel_rfl) (by kernel_rfl) (by kernel_rfl) (fun _ _ _ h => h) hC ?w12_13 ?y12_13 ?f12_13 ?r12_13
        case w12_13 => kernel_rfl
        case y12_13 => (intro w hC; go_simp; try with_reducible rfl)
        case f12_13 => (go_simp; try with_reducible rfl)
        refine anyC_take (i := 13) (v := ?v13_14) (a' := ?a13_14) rfl (by kernel_rfl) (by kernel_rfl) (by kernel_rfl) (fun _ _ _ h => h) hC ?w13_14 ?y13_14 ?f13_14 ?r13_14
        case w13_14 => kernel_rfl
        case y13_14 => (intro w hC; go_simp; try with_reducible rfl)
        case f13_14 => (go_simp; try with_reducible rfl)
        refine anyC_take (i := 14) (v := ?v14_15) (a' := ?a14_15) rfl (by kernel_rfl) (by kernel_rfl) (by kernel_rfl) (fun _ _ _ h => h) hC ?w14_15 ?y14_15 ?f14_15 ?r14_15
        case w14_15 => kernel_rfl
        case y14_15 => (intro w hC; have h4 := (hC.cell hlt5).trans hcw; go_simp; try with_reducible rfl)
        case f14_15 => (go_simp; try with_reducible rfl)
        refine anyC_take (i := 15) (v := ?v15_16) (a' := ?a15_16) rfl (by kernel_rfl) (by kernel_rfl) (by kernel_rfl) (fun _ _ _ h => h) hC ?w15_16 ?y15_16 ?f15_16 ?r15_16
        case w15_16 => kernel_rfl
        case y15_16 => (intro w hC; have h4 := HR6.out w hC; go_simp; try with_reducible rfl)
        case f15_16 => (go_simp; try with_reducible rfl)
        refine anyC_take (i := 16) (v := ?v16_17) (a' := ?a16_17) rfl (by kernel_rfl) (by kernel_rfl) (by kernel_rfl) (fun _ _ _ h => h) hC ?w16_17 ?y16_17 ?f16_17 ?r16_17
        case w16_17 => kernel_rfl
        case y16_17 => (intro w hC; go_simp; try with_reducible rfl)
        case f16_17 => (go_simp; try with_reducible rfl)
        refine anyC_take (i := 17) (v := ?v17_18) (a' := ?a17_18) rfl (by kernel_rfl) (by kernel_rfl) (by kernel_rfl) (fun _ _ _ h => h) hC ?w17_18 ?y17_18 ?f17_18 ?r17_18
        case w17_18 => kernel_rfl
        case y17_18 => (intro w hC; go_simp; try with_reducible rfl)
        case f17_18 => (go_simp; try with_reducible rfl)
        refine anyC_take (i := 18) (v := ?v18_19) (a' := ?a18_19) rfl (by kernel_rfl) (by kernel_rfl) (by kernel_rfl) (fun _ _ _ h => h) hC ?w18_19 ?y18_19 ?f18_19 ?r18_19
        case w18_19 => kernel_rfl
        case y18_19 => (intro w hC; go_simp; try with_reducible rfl)
        case f18_19 => (go_simp; try with_reducible rfl)
        refine anyC_take (i := 19) (v := ?v19_20) (a' := ?a19_20) rfl (by kernel_rfl) (by kernel_rfl) (by kernel_rfl) (fun _ _ _ h => h) hC ?w19_20 ?y19_20 ?f19_20 ?r19_20
        case w19_20 => kernel_rfl
        case y19_20 => (intro w hC; go_simp; try with_reducible rfl)
        case f19_20 => (go_simp; try with_reducible rfl)
        refine anyC_take (i := 20) (v := ?v20_21) (a' := ?a20_21) rfl (by kernel_rfl) (by kernel_rfl) (by kernel_rfl) (fun _ _ _ h => h) hC ?w20_21 ?y20_21 ?f20_21 ?r20_21
        case w20_21 => kernel_rfl
        case y20_21 => (intro w hC; have h4 := HR5.out w hC; go_simp; try with_reducible rfl)
        case f20_21 => (go_simp; try with_reducible rfl)
        refine anyC_take (i := 21) (v := ?v21_22) (a' := ?a21_22) rfl (by kernel_rfl) (by kernel_rfl) (by kernel_rfl) (fun _ _ _ h => h) hC ?w21_22 ?y21_22 ?f21_22 ?r21_22
        case w21_22 => kernel_rfl
        case y21_22 => (intro w hC; go_simp; try with_reducible rfl)
        case f21_22 => (go_simp; try with_reducible rfl)
        refine anyC_take (i := 22) (v := ?v22_23) (a' := ?a22_23) rfl (by kernel_rfl) (by kernel_rfl) (by kernel_rfl) (fun _ _ _ h => h) hC ?w22_23 ?y22_23 ?f22_23 ?r22_23
        case w22_23 => kernel_rfl
        case y22_23 => (intro w hC; go_simp; try with_reducible rfl)
        case f22_23 => (go_simp; try with_reducible rfl)
        refine anyC_take (i := 23) (v := ?v23_24) (a' := ?a23_24) rfl (by kernel_rfl) (by kernel_rfl) (by kernel_rfl) (fun _ _ _ h => h) hC ?w23_24 ?y23_24 ?f23_24 ?r23_24
        case w23_24 => kernel_rfl
        case y23_24 => (intro w hC; go_simp; try with_reducible rfl)
        case f23_24 => (go_simp; try with_reducible rfl)
        refine anyC_take (i := 24) (v := ?v24_25) (a' := ?a24_25) rfl (by kernel_rfl) (by kernel_rfl) (by kernel_rfl) (fun _ _ _ h => h) hC ?w24_25 ?y24_25 ?f24_25 ?r24_25
        case w24_25 => kernel_rfl
        case y24_25 => (intro w hC; have h4 := (hC.cell hlt5).trans hcw; go_simp; try with_reducible rfl)
        case f24_25 => (go_simp; try with_reducible rfl)
        refine anyC_take (i := 25) (v := ?v25_26) (a' := ?a25_26) rfl (by kernel_rfl) (by kernel_rfl) (by kernel_rfl) (fun _ _ _ h => h) hC ?w25_26 ?y25_26 ?f25_26 ?r25_26
        case w25_26 => kernel_rfl
        case y25_26 => (intro w hC; have h4 := HR6.out w hC; go_simp; try with_reducible rfl)
        case f25_26 => (go_simp; try with_reducible rfl)
        refine anyC_take (i := 26) (v := ?v26_27) (a' := ?a26_27) rfl (by kernel_rfl) (by kernel_rfl) (by kernel_rfl) (fun _ _ _ h => h) hC ?w26_27 ?y26_27 ?f26_27 ?r26_27
        case w26_27 => kernel_rfl
        case y26_27 => (intro w hC; go_simp; try with_reducible rfl)
        case f26_27 => (go_simp; try with_reducible rfl)
        refine anyC_take (i := 27) (v := ?v27_28) (a' := ?a27_28) rfl (by kernel_rfl) (by kernel_rfl) (by kernel_rfl) (fun _ _ _ h => h) hC ?w27_28 ?y27_28 ?f27_28 ?r27_28
        case w27_28 => kernel_rfl
        case y27_28 => (intro w hC; go_simp; try with_reducible rfl)
        case f27_28 => (go_simp; try with_reducible rfl)
        refine anyC_take (i := 28) (v := ?v28_29) (a' := ?a28_29) rfl (by kernel_rfl) (by kernel_rfl) (by kernel_rfl) (fun _ _ _ h => h) hC ?w28_29 ?y28_29 ?f28_29 ?r28_29
        case w28_29 => kernel_rfl
        case y28_29 => (intro w hC; go_simp; try with_reducible rfl)
        case f28_29 => (go_simp; try with_reducible rfl)
        refine anyC_take (i := 29) (v := ?v29_30) (a' := ?a29_30) rfl (by kernel_rfl) (by kernel_rfl) (by kernel_rfl) (fun _ _ _ h => h) hC ?w29_30 ?y29_30 ?f29_30 ?r29_30
        case w29_30 => kernel_rfl
        case y29_30 => (intro w hC; go_simp; try with_reducible rfl)
        case f29_30 => (go_simp; try with_reducible rfl)
        refine anyC_call (i := 30) (a' := ?a30_31) rfl (by kernel_rfl) (by kernel_rfl) (by kernel_rfl) (fun _ _ _ h => h) hC (fun W hW => (HL.out W hW)) (by kernel_rfl) ?y30_31 ?f30_31 ?r30_31
        case y30_31 => (intro W hW; go_simp; try with_reducible rfl)
        case f30_31 => (go_simp; try with_reducible rfl)
        refine anyC_take (i := 31) (v := ?v31_32) (a' := ?a31_32) rfl (by kernel_rfl) (by kernel_rfl) (by kernel_rfl) (fun _ _ _ h => h) hC ?w31_32 ?y31_32 ?f31_32 ?r31_32
        case w31_32 => kernel_rfl
        case y31_32 => (intro w hC; go_simp; try with_reducible rfl)
        case f31_32 => (go_simp; try with_reducible rfl)
        refine anyC_take (i := 32) (v := ?v32_33) (a' := ?a32_33) rfl (by kernel_rfl) (by kernel_rfl) (by kernel_rfl) (fun _ _ _ h => h) hC ?w32_33 ?y32_33 ?f32_33 ?r32_33
        case w32_33 => kernel_rfl
        case y32_33 => (intro w hC; go_simp; try with_reducible rfl)
        case f32_33 => (go_simp; try with_reducible rfl)
        refine anyC_take (i := 33) (v := ?v33_34) (a' := ?a33_34) rfl (by kernel_rfl) (by kernel_rfl) (by kernel_rfl) (fun _ _ _ h => h) hC ?w33_34 ?y33_34 ?f33_34 ?r33_34
        case w33_34 => kernel_rfl
        case y33_34 => (intro w hC; go_simp; try with_reducible rfl)
        case f33_34 => (go_simp; try with_reducible rfl)
        refine anyC_take (i := 34) (v := ?v34_35) (a' := ?a34_35) rfl (by kernel_rfl) (by kernel_rfl) (by kernel_rfl) (fun _ _ _ h => h) hC ?w34_35 ?y34_35 ?f34_35 ?r34_35
        case w34_35 => kernel_rfl
        case y34_35 => (intro w hC; go_simp; try with_reducible rfl)
        case f34_35 => (go_simp; try with_reducible rfl)
        refine anyC_take (i := 35) (v := ?v35_36) (a' := ?a35_36) rfl (by kernel_rfl) (by kernel_rfl) (by kernel_rfl) (fun _ _ _ h => h) hC ?w35_36 ?y35_36 ?f35_36 ?r35_36
        case w35_36 => kernel_rfl
        case y35_36 => (intro w hC; go_simp; try with_reducible rfl)
        case f35_36 => (go_simp; try with_reducible rfl)
        refine anyC_take (i := 36) (v := ?v36_37) (a' := ?a36_37) rfl (by kernel_rfl) (by kernel_rfl) (by kernel_rfl) (fun _ _ _ h => h) hC ?w36_37 ?y36_37 ?f36_37 ?r36_37
        case w36_37 => kernel_rfl
        case y36_37 => (intro w hC; go_simp; try with_reducible rfl)
        case f36_37 => (go_simp; try with_reducible rfl)
        refine anyC_done (by kernel_rfl) ?_
        go_wp2
        go_ret
        exact ⟨rfl, HB5.out.trans (hC.mono HB5.out.size)⟩
  · have d1 : decide ((300 : Int) < (len : Int)) = true := by simp; omega
    go_wp2
    go_ret
    exact ⟨rfl, j2.bel⟩
end Go.Proofs.Ytceleihfdpgpiaa
