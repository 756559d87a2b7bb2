/- ClockGains, walked. -/
import Derived.Test.YtfdpogbhhocaeaaCo
import Derived.Test.YtfdpogbhhocaeaaCp
import Derived.Test.YtfdpogbhhocaeaaCz
namespace Go.Proofs.Ytfdpogbhhocaeaa
open Go.RowKit Go.Shelf Km

set_option maxRecDepth 100000 in
set_option maxHeartbeats 4000000 in
theorem gains_walk (a0 : Option Addr) (len0 cap0 : Nat) (l : List (Int × Int)) (a1 a2 : Int) (w : World)
    (w0 : StsAt w a0 len0 cap0 l) (_w1 : (Lit.int .i64 a1).wf = true) (w2 : (Lit.int .u8 a2).wf = true) :
    Calls Try.prog 5 #[.slice a0 len0 cap0, .int .i64 a1, .int .u8 a2] w fun e w' => e = .returned (.bool true) ∧ Below w.heap.size w w' := by
  obtain ⟨hn, hnc, hcm, hl, hr⟩ := w0
  have hu : 0 ≤ a2 ∧ a2 ≤ 255 := wf_u8 (xs := [a2]) (fun n hn => by rw [List.mem_singleton] at hn; subst hn; exact w2) a2 (List.mem_singleton.2 rfl)
  have hm9 : len0 ≤ 9223372036854775807 := by unfold maxLen at hcm; omega
  clear w2
  have HN := Lib.hid hn
  have HR := Lib.hid hr
  clear hn hl hr
  go_enter Try.func5, Try.ntmps5
  go_wp2_with (go_at_call 8; fail)
  refine (head_any _).mono ?_
  rintro e w1 ⟨rfl, hb1⟩
  by_cases hg : len0 ≤ 1000
  · have d1 : decide ((1000 : Int) < (len0 : Int)) = false := by simp; omega
    obtain ⟨k, hk, hkl⟩ : ∃ k : Nat, a2 % ((len0 : Int) + 1) = (k : Int) ∧ k ≤ len0 := ⟨(a2 % ((len0 : Int) + 1)).toNat, by have := Int.emod_nonneg a2 (show ((len0 : Int) + 1) ≠ 0 by omega); omega, by have := Int.emod_lt_of_pos a2 (show (0 : Int) < (len0 : Int) + 1 by omega); omega⟩
    have hw1 : IntKind.i64.wrap ((len0 : Int) + 1) = (len0 : Int) + 1 := by rw [IntKind.wrap_i64]; omega
    have hw2 : IntKind.i64.wrap a2 = a2 := by rw [IntKind.wrap_i64]; omega
    have d2 : ((len0 : Int) + 1 == 0) = false := by simp; omega
    have ht : a2.tmod ((len0 : Int) + 1) = (k : Int) := by rw [Int.tmod_eq_emod_of_nonneg hu.1]; exact hk
    go_wp2_with fail
    have HB1 := Lib.hid hb1
    have hz1 := hb1.size
    have hR1 : Hid (∀ W, Below w.heap.size w W → Rd W w.heap.size a0 (svs l)) := Lib.hid (fun W h => HR.out.below h)
    have hR2 : Hid (∀ W, Below w.heap.size w W → Rd W w.heap.size (cutS a0 0 cap0) (svs (l.take k))) := Lib.hid (fun W h => Rd.cutSh (HR.out.below h) (by rw [HN.out]; exact hnc))
    have hR3 : Hid (∀ W, Below w.heap.size w W → Rd W w.heap.size (cutS a0 k cap0) (svs (l.drop k))) := Lib.hid (fun W h => Rd.cutS (HR.out.below h) (by rw [HN.out]; exact hnc))
    have hl2 : (l.take k).length = k := by rw [List.length_take, HN.out]; omega
    have hl3 : (l.drop k).length = len0 - k := by rw [List.length_drop, HN.out]
    have hga : Cl.gain l a1 = Cl.gain (l.take k) a1 + Cl.gain (l.drop k) a1 := by have := Cl.gain_app (l.take k) (l.drop k) a1; rwa [List.take_append_drop] at this
    have hgn : Cl.gain l (-1) = 0 := Cl.gain_neg l (by omega)
    have hm2 := Cl.gain_most l a1
    have hp2 := Cl.gain_pos l a1
    rw [HN.out] at hm2
    have HL2 := Lib.hid hl2
    have HL3 := Lib.hid hl3
    have HGA := Lib.hid hga
    have HGN := Lib.hid hgn
    clear hk ht hb1 hl2 hl3 hga hgn d1 d2 hw1 hw2
    refine region_C (fun W => Below w.heap.size w W) (by kernel_rfl) ?_
    have hC : Below w.heap.size w w1.drew := HB1.out.drew
    generalize w1.drew = w2 at *
    refine anyC_take (i := 0) (v := ?v0_1) (a' := ?a0_1) rfl (by kernel_rfl) (by kernel_rfl) (by kernel_rfl) (fun _ _ _ h => h) hC ?w0_1 ?y0_1 ?f0_1 ?r0_1
    case w0_1 => kernel_rfl
    case y0_1 => (intro w hC; go_simp; try with_reducible rfl)
    case f0_1 => (go_simp; try with_reducible rfl)
    refine anyC_take (i := 1) (v := ?v1_2) (a' := ?a1_2) rfl (by kernel_rfl) (by kernel_rfl) (by kernel_rfl) (fun _ _ _ h => h) hC ?w1_2 ?y1_2 ?f1_2 ?r1_2
    case w1_2 => kernel_rfl
    case y1_2 => (intro w hC; go_simp; try with_reducible rfl)
    case f1_2 => (go_simp; try with_reducible rfl)
    refine anyC_take (i := 2) (v := ?v2_3) (a' := ?a2_3) rfl (by kernel_rfl) (by kernel_rfl) (by kernel_rfl) (fun _ _ _ h => h) hC ?w2_3 ?y2_3 ?f2_3 ?r2_3
    case w2_3 => kernel_rfl
    case y2_3 => (intro w hC; go_simp; try with_reducible rfl)
    case f2_3 => (go_simp; try with_reducible rfl)
    refine anyC_take (i := 3) (v := ?v3_4) (a' := ?a3_4) rfl (by kernel_rfl) (by kernel_rfl) (by kernel_rfl) (fun _ _ _ h => h) hC ?w3_4 ?y3_4 ?f3_4 ?r3_4
    case w3_4 => kernel_rfl
    case y3_4 => (intro w hC; go_simp; try with_reducible rfl)
    case f3_4 => (go_simp; try with_reducible rfl)
    refine anyC_take (i := 5) (v := ?v5_5) (a' := ?a5_5) rfl (by kernel_rfl) (by kernel_rfl) (by kernel_rfl) (fun _ _ _ h => h) hC ?w5_5 ?y5_5 ?f5_5 ?r5_5
    case w5_5 => kernel_rfl
    case y5_5 => (intro w hC; go_simp; try with_reducible rfl)
    case f5_5 => (go_simp; try with_reducible rfl)
    refine anyC_take (i := 6) (v := ?v6_6) (a' := ?a6_6) rfl (by kernel_rfl) (by kernel_rfl) (by kernel_rfl) (fun _ _ _ h => h) hC ?w6_6 ?y6_6 ?f6_6 ?r6_6
    case w6_6 => kernel_rfl
    case y6_6 => (intro w hC; go_simp; try with_reducible rfl)
    case f6_6 => (go_simp; try with_reducible rfl)
    refine anyC_take (i := 8) (v := ?v8_7) (a' := ?a8_7) rfl (by kernel_rfl) (by kernel_rfl) (by kernel_rfl) (fun _ _ _ h => h) hC ?w8_7 ?y8_7 ?f8_7 ?r8_7
    case w8_7 => kernel_rfl
    case y8_7 => (intro w hC; go_simp; try with_reducible rfl)
    case f8_7 => (go_simp; try with_reducible rfl)
    refine anyC_take (i := 10) (v := ?v10_8) (a' := ?a10_8) rfl (by kernel_rfl) (by kernel_rfl) (by kernel_rfl) (fun _ _ _ h => h) hC ?w10_8 ?y10_8 ?f10_8 ?r10_8
    case w10_8 => kernel_rfl
    case y10_8 => (intro w hC; go_simp; try with_reducible rfl)
    case f10_8 => (go_simp; try with_reducible rfl)
    refine anyC_take (i := 11) (v := ?v11_9) (a' := ?a11_9) rfl (by kernel_rfl) (by kernel_rfl) (by kernel_rfl) (fun _ _ _ h => h) hC ?w11_9 ?y11_9 ?f11_9 ?r11_9
    case w11_9 => kernel_rfl
    case y11_9 => (intro w hC; go_simp; try with_reducible rfl)
    case f11_9 => (go_simp; try with_reducible rfl)
    refine anyC_take (i := 13) (v := ?v13_10) (a' := ?a13_10) rfl (by kernel_rfl) (by kernel_rfl) (by kernel_rfl) (fun _ _ _ h => h) hC ?w13_10 ?y13_10 ?f13_10 ?r13_10
    case w13_10 => kernel_rfl
    case y13_10 => (intro w hC; go_simp; try with_reducible rfl)
    case f13_10 => (go_simp; try with_reducible rfl)
    refine anyC_take (i := 7) (v := ?v7_11) (a' := ?a7_11) rfl (by kernel_rfl) (by kernel_rfl) (by kernel_rfl) (fun _ _ _ h => h) hC ?w7_11 ?y7_11 ?f7_11 ?r7_11
    case w7_11 => kernel_rfl
    case y7_11 => (intro w hC; have h4 := run_cutSh a0 len0 cap0 k (by omega) w; go_simp; try with_reducible rfl)
    case f7_11 => (go_simp; try with_reducible rfl)
    refine anyC_take (i := 12) (v := ?v12_12) (a' := ?a12_12) rfl (by kernel_rfl) (by kernel_rfl) (by kernel_rfl) (fun _ _ _ h => h) hC ?w12_12 ?y12_12 ?f12_12 ?r12_12
    case w12_12 => kernel_rfl
    case y12_12 => (intro w hC; have h4 := run_cutS a0 len0 cap0 k (by omega) w; go_simp; try with_reducible rfl)
    case f12_12 => (go_simp; try with_reducible rfl)
    refine anyC_one (i := 4) rfl (by kernel_rfl) (by kernel_rfl) (fun K hK => ?_)
    go_simp
    refine (Gain_any a0 len0 cap0 w.heap.size l a1 w2 (hR1.out w2 hC) HN.out hC.size (by omega)).mono ?_
    rintro e w3 ⟨rfl, hb3⟩
    have hC3 : Below w.heap.size w w3 := hC.trans (hb3.mono hC.size)
    refine hK _ _ ⟨hC3, ?_⟩
    clear hC hb3
    refine anyC_one (i := 9) rfl (by kernel_rfl) (by kernel_rfl) (fun K hK => ?_)
    go_simp
    refine (Gain_any (cutS a0 0 cap0) k cap0 w.heap.size (l.take k) a1 w3 (hR2.out w3 hC3) HL2.out hC3.size (by omega)).mono ?_
    rintro e w4 ⟨rfl, hb4⟩
    have hC4 : Below w.heap.size w w4 := hC3.trans (hb4.mono hC3.size)
    refine hK _ _ ⟨hC4, ?_⟩
    clear hC3 hb4
    refine anyC_one (i := 14) rfl (by kernel_rfl) (by kernel_rfl) (fun K hK => ?_)
    go_simp
    refine (Gain_any (cutS a0 k cap0) (len0 - k) (cap0 - k) w.heap.size (l.drop k) a1 w4 (hR3.out w4 hC4) HL3.out hC4.size (by omega)).mono ?_
    rintro e w5 ⟨rfl, hb5⟩
    have hC5 : Below w.heap.size w w5 := hC4.trans (hb5.mono hC4.size)
    refine hK _ _ ⟨hC5, ?_⟩
    clear hC4 hb5
    have hga := HGA.out
    generalize Cl.gain (l.take k) a1 = q1 at *
    generalize Cl.gain (l.drop k) a1 = q2 at *
    generalize Cl.gain l a1 = q0 at *
    have hw9 : IntKind.i64.wrap (q1 + q2) = q0 := by rw [IntKind.wrap_i64]; omega
    have hee : (q0 == q0) = true := by simp
    clear hga HGA
    refine anyC_take (i := 15) (v := ?v15_13) (a' := ?a15_13) rfl (by kernel_rfl) (by kernel_rfl) (by kernel_rfl) (fun _ _ _ h => h) hC5 ?w15_13 ?y15_13 ?f15_13 ?r15_13
    case w15_13 => kernel_rfl
    case y15_13 => (intro w hC; go_simp; try with_reducible rfl)
    case f15_13 => (go_simp; try with_reducible rfl)
    refine anyC_take (i := 16) (v := ?v16_14) (a' := ?a16_14) rfl (by kernel_rfl) (by kernel_rfl) (by kernel_rfl) (fun _ _ _ h => h) hC5 ?w16_14 ?y16_14 ?f16_14 ?r16_14
    case w16_14 => kernel_rfl
    case y16_14 => (intro w hC; go_simp; try with_reducible rfl)
    case f16_14 => (go_simp; try with_reducible rfl)
    refine anyC_take (i := 17) (v := ?v17_15) (a' := ?a17_15) rfl (by kernel_rfl) (by kernel_rfl) (by kernel_rfl) (fun _ _ _ h => h) hC5 ?w17_15 ?y17_15 ?f17_15 ?r17_15
    case w17_15 => kernel_rfl
    case y17_15 => (intro w hC; go_simp; try with_reducible rfl)
    case f17_15 => (go_simp; try with_reducible rfl)
    refine anyC_take (i := 18) (v := ?v18_16) (a' := ?a18_16) rfl (by kernel_rfl) (by kernel_rfl) (by kernel_rfl) (fun _ _ _ h => h) hC5 ?w18_16 ?y18_16 ?f18_16 ?r18_16
    case w18_16 => kernel_rfl
    case y18_16 => (intro w hC; go_simp; try with_reducible rfl)
    case f18_16 => (go_simp; try with_reducible rfl)
    refine anyC_take (i := 19) (v := ?v19_17) (a' := ?a19_17) rfl (by kernel_rfl) (by kernel_rfl) (by kernel_rfl) (fun _ _ _ h => h) hC5 ?w19_17 ?y19_17 ?f19_17 ?r19_17
    case w19_17 => kernel_rfl
    case y19_17 => (intro w hC; go_simp; try with_reducible rfl)
    case f19_17 => (go_simp; try with_reducible rfl)
    have HC5 := Lib.hid hC5
    refine anyC_one (i := 20) rfl (by kernel_rfl) (by kernel_rfl) (fun K hK => ?_)
    go_simp
    refine (Gain_any a0 len0 cap0 w.heap.size l (-1) w5 (hR1.out w5 hC5) HN.out hC5.size (by omega)).mono ?_
    rw [HGN.out]
    rintro e w6 ⟨rfl, hb6⟩
    have hC6 : Below w.heap.size w w6 := hC5.trans (hb6.mono hC5.size)
    refine hK _ _ ⟨hC6, ?_⟩
    clear hC5 hb6 HC5
    refine anyC_take (i := 21) (v := ?v21_18) (a' := ?a21_18) rfl (by kernel_rfl) (by kernel_rfl) (by kernel_rfl) (fun _ _ _ h => h) hC6 ?w21_18 ?y21_18 ?f21_18 ?r21_18
    case w21_18 => kernel_rfl
    case y21_18 => (intro w hC; go_simp; try with_reducible rfl)
    case f21_18 => (go_simp; try with_reducible rfl)
    refine anyC_take (i := 22) (v := ?v22_19) (a' := ?a22_19) rfl (by kernel_rfl) (by kernel_rfl) (by kernel_rfl) (fun _ _ _ h => h) hC6 ?w22_19 ?y22_19 ?f22_19 ?r22_19
    case w22_19 => kernel_rfl
    case y22_19 => (intro w hC; go_simp; try with_reducible rfl)
    case f22_19 => (go_simp; try with_reducible rfl)
    refine anyC_take (i := 23) (v := ?v23_20) (a' := ?a23_20) rfl (by kernel_rfl) (by kernel_rfl) (by kernel_rfl) (fun _ _ _ h => h) hC6 ?w23_20 ?y23_20 ?f23_20 ?r23_20
    case w23_20 => kernel_rfl
    case y23_20 => (intro w hC; go_simp; try with_reducible rfl)
    case f23_20 => (go_simp; try with_reducible rfl)
    refine anyC_done (by kernel_rfl) ?_
    go_wp2
    go_ret
    exact ⟨rfl, hC6⟩
  · have d1 : decide ((1000 : Int) < (len0 : Int)) = true := by simp; omega
    go_wp2
    go_ret
    exact ⟨rfl, hb1⟩
end Go.Proofs.Ytfdpogbhhocaeaa
