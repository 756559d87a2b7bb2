/- ClockRows, walked. -/
import Derived.Test.YtfdpogbhhocaeaaCo
import Derived.Test.YtfdpogbhhocaeaaCp
import Derived.Test.YtfdpogbhhocaeaaCz
import Derived.Test.YtfdpogbhhocaeaaCr
import Derived.Test.YtfdpogbhhocaeaaLDrifts
namespace Go.Proofs.Ytfdpogbhhocaeaa
open Go.RowKit Go.Shelf Km

set_option maxRecDepth 100000 in
set_option maxHeartbeats 8000000 in
theorem rows_walk (a0 : Option Addr) (len0 cap0 : Nat) (l : List (Int × Int)) (a1 : Option Addr) (len1 cap1 : Nat) (z1 : List Int) (a2 : Int) (a3 : Option Addr) (len3 cap3 : Nat) (z3 : List Int) (a4 a5 a6 : Int) (w : World)
    (w0 : StsAt w a0 len0 cap0 l) (w1 : RowOf .i64 w a1 len1 cap1 z1) (_w2 : (Lit.int .i64 a2).wf = true) (w3 : RowOf .i64 w a3 len3 cap3 z3) (_w4 : (Lit.int .i64 a4).wf = true) (w5 : (Lit.int .u8 a5).wf = true) (w6 : (Lit.int .u8 a6).wf = true) :
    Calls Try.prog 4 #[.slice a0 len0 cap0, .slice a1 len1 cap1, .int .i64 a2, .slice a3 len3 cap3, .int .i64 a4, .int .u8 a5, .int .u8 a6] w fun e w' => e = .returned (.bool true) ∧ Below w.heap.size w w' := by
  obtain ⟨hn, hnc, -, hl, hr⟩ := w0
  obtain ⟨x1, hn1, hnc1, -, hr1, hx1⟩ := nodes_of w1
  obtain ⟨x3, hn3, hnc3, -, hr3, hx3⟩ := nodes_of w3
  have one : ∀ a : Int, (Lit.int .u8 a).wf = true → 0 ≤ a ∧ a ≤ 255 := fun a h => wf_u8 (xs := [a]) (fun n hn => by rw [List.mem_singleton] at hn; subst hn; exact h) a (List.mem_singleton.2 rfl)
  have hu5 := one a5 w5
  have hu6 := one a6 w6
  clear w1 w3 w5 w6 one
  have HN := Lib.hid hn
  have HN1 := Lib.hid hn1
  have HN3 := Lib.hid hn3
  have HX1 := Lib.hid hx1
  have HX3 := Lib.hid hx3
  have HL := Lib.hid hl
  have HR := Lib.hid hr
  have HR1 := Lib.hid hr1
  have HR3 := Lib.hid hr3
  clear hn hn1 hn3 hx1 hx3 hl hr hr1 hr3
  go_enter Try.func4, Try.ntmps4
  go_wp2_with (first | (go_at_call 8; refine (head_any _).mono ?_; rintro e w1 ⟨rfl, hb1⟩) | (go_at_call 9; fail))
  by_cases hg : len0 ≤ 40 ∧ len1 ≤ 20 ∧ len3 ≤ 20
  · refine (great_no _ _ _ _ _ _ _ _ _ _ hg.1 hg.2.1 hg.2.2).mono ?_
    rintro e w2 ⟨rfl, rfl⟩
    obtain ⟨g0, g1, g3⟩ := hg
    have hz1 := hb1.size
    have HB1 := Lib.hid hb1
    have HD := Lib.hid (fun (W : World) (h : Below w.heap.size w W) => Drift_any a0 len0 cap0 w.heap.size l a1 len1 cap1 w.heap.size x1 a2 a3 len3 cap3 w.heap.size x3 a4 W (HR.out.below h) HN.out hnc h.size HL.out (by omega) (HR1.out.below h) HN1.out h.size HX1.out (by omega) (HR3.out.below h) HN3.out h.size HX3.out (by omega))
    clear hb1
    obtain ⟨a, ha, hal⟩ : ∃ k : Nat, a5 % ((len0 : Int) + 1) = (k : Int) ∧ k ≤ len0 := ⟨(a5 % ((len0 : Int) + 1)).toNat, by have := Int.emod_nonneg a5 (show ((len0 : Int) + 1) ≠ 0 by omega); omega, by have := Int.emod_lt_of_pos a5 (show (0 : Int) < (len0 : Int) + 1 by omega); omega⟩
    obtain ⟨r, hrr, hrl⟩ : ∃ k : Nat, a6 % ((len0 : Int) - (a : Int) + 1) = (k : Int) ∧ k ≤ len0 - a := ⟨(a6 % ((len0 : Int) - (a : Int) + 1)).toNat, by have := Int.emod_nonneg a6 (show ((len0 : Int) - (a : Int) + 1) ≠ 0 by omega); omega, by have := Int.emod_lt_of_pos a6 (show (0 : Int) < (len0 : Int) - (a : Int) + 1 by omega); omega⟩
    have t1 : a5.tmod ((len0 : Int) + 1) = (a : Int) := by rw [Int.tmod_eq_emod_of_nonneg hu5.1]; exact ha
    have t2 : a6.tmod ((len0 : Int) - (a : Int) + 1) = (r : Int) := by rw [Int.tmod_eq_emod_of_nonneg hu6.1]; exact hrr
    have v1 : IntKind.i64.wrap ((len0 : Int) + 1) = (len0 : Int) + 1 := by rw [IntKind.wrap_i64]; omega
    have v2 : IntKind.i64.wrap ((len0 : Int) - (a : Int)) = (len0 : Int) - (a : Int) := by rw [IntKind.wrap_i64]; omega
    have v3 : IntKind.i64.wrap ((len0 : Int) - (a : Int) + 1) = (len0 : Int) - (a : Int) + 1 := by rw [IntKind.wrap_i64]; omega
    have v4 : IntKind.i64.wrap ((a : Int) + (r : Int)) = (a : Int) + (r : Int) := by rw [IntKind.wrap_i64]; omega
    have v5 : IntKind.i64.wrap a5 = a5 := by rw [IntKind.wrap_i64]; omega
    have v6 : IntKind.i64.wrap a6 = a6 := by rw [IntKind.wrap_i64]; omega
    have z1' : ((len0 : Int) + 1 == 0) = false := by simp; omega
    have z2' : ((len0 : Int) - (a : Int) + 1 == 0) = false := by simp; omega
    go_wp2_with (go_at_call 12; fail)
    refine (HD.out w2 HB1.out).mono ?_
    rintro e w3 ⟨b1, rfl, hbi, hb3⟩
    have HB3 := Lib.hid (HB1.out.trans (hb3.mono hz1))
    have hz3 := HB3.out.size
    have HBI := Lib.hid hbi
    clear hbi hb3 HB1 t1 t2 v1 v2 v3 v4 v5 v6 z1' z2' ha hrr
    obtain ⟨i1, hi1, hj1, hy1, ht1⟩ := info_parts info_step
    have s1 := run_cutSh a0 len0 cap0 a (by omega)
    have s2 := run_cutS a0 len0 cap0 a hal
    have hla : (l.take a).length = a := by rw [List.length_take, HN.out]; omega
    have hld : (l.drop a).length = len0 - a := by rw [List.length_drop, HN.out]
    have HS1 : Hid (∀ W, Below w.heap.size w W → Rd W w.heap.size (cutS a0 0 cap0) (svs (l.take a))) := Lib.hid (fun W h => Rd.cutSh (HR.out.below h) (by rw [HN.out]; exact hnc))
    have HS2 : Hid (∀ W, Below w.heap.size w W → Rd W w.heap.size (cutS a0 a cap0) (svs (l.drop a))) := Lib.hid (fun W h => Rd.cutS (HR.out.below h) (by rw [HN.out]; exact hnc))
    have hsl1 : (svs (l.take a)).length = a * 2 := by rw [svs_len, hla]
    have hsl2 : (svs (l.drop a)).length = (len0 - a) * 2 := by rw [svs_len, hld]
    have HSL1 := Lib.hid hsl1
    have HSL2 := Lib.hid hsl2
    have hm4 := World.ownsRow_made (base := w.heap.size) (e := 30) (size := 2) w3 #[] 0 hz3 (by unfold maxLen; omega) (by simp)
    have hb4 : Below w.heap.size w (w3.alloc (.cells #[] 30)) := HB3.out.alloc hz3 _
    have HM4 := Lib.hid hm4
    have HB4 := Lib.hid hb4
    clear hsl1 hsl2 hla hld hm4 hb4
    go_wp2_with (first
      | (at_builtin; refine wpList_appS rfl _ _ 22 rfl w.heap.size 30 i1 (.agg #[.int .i64 0, .int .i64 0]) 2 16 Try.underlying22 hi1 hj1 hy1 ht1 rfl (by decide) (.slice (some ⟨w3.heap.size, 0, none⟩) 0 0) 0 [] rfl HM4.out w.heap.size (cutS a0 0 cap0) a cap0 (svs (l.take a)) rfl HSL1.out (HS1.out _ HB4.out) (svs_one _) (by unfold maxLen; omega) (by omega) HB4.out.size ?_; intro v5 w5 hown5 hgrow5; have HB5 := Lib.hid (below_appS HB4.out HM4.out hgrow5 HB4.out.size); rw [Nat.zero_add, List.nil_append] at hown5; have HO5 := Lib.hid hown5; obtain ⟨A5, c5, rfl, -⟩ := own_viewS hown5; clear hown5 hgrow5)
      | (at_builtin; refine wpList_appS rfl _ _ 22 rfl w.heap.size 30 i1 (.agg #[.int .i64 0, .int .i64 0]) 2 16 Try.underlying22 hi1 hj1 hy1 ht1 rfl (by decide) (.slice A5 a c5) a (svs (l.take a)) rfl (HO5.out.alloc _) (w5.heap.size + 1) (some ⟨w5.heap.size, 0, none⟩) 1 1 (sv (-1, 5)) rfl rfl (Rd.new w5 (w5.heap.size + 1) (sv (-1, 5)) 30 (0, 0) (by omega)) (by simp [sv, Value.oneCell']) (by unfold maxLen; omega) (by omega) (by have := HB5.out.size; rw [World.size_alloc]; omega) ?_; intro v7 w7 hown7 hgrow7; have HG7 := Lib.hid hgrow7; have HO7 := Lib.hid hown7; obtain ⟨A7, c7, rfl, -⟩ := own_viewS hown7; clear hown7 hgrow7)
      | (at_builtin; refine wpList_appS rfl _ _ 22 rfl w.heap.size 30 i1 (.agg #[.int .i64 0, .int .i64 0]) 2 16 Try.underlying22 hi1 hj1 hy1 ht1 rfl (by decide) (.slice A7 (a + 1) c7) (a + 1) (svs (l.take a) ++ sv (-1, 5)) rfl HO7.out w.heap.size (cutS a0 a cap0) (len0 - a) (cap0 - a) (svs (l.drop a)) rfl HSL2.out (HS2.out _ (below_appS (HB5.out.alloc HB5.out.size _) (HO5.out.alloc _) HG7.out (by have := HB5.out.size; rw [World.size_alloc]; omega))) (svs_one _) (by unfold maxLen; omega) (by omega) (by have h1 := HG7.out.size; have h2 := HB5.out.size; rw [World.size_alloc] at h1; omega) ?_; intro v8 w8 hown8 hgrow8; have HG8 := Lib.hid hgrow8; have HO8 := Lib.hid hown8; obtain ⟨A8, c8, rfl, -⟩ := own_viewS hown8; clear hown8 hgrow8)
      | (go_at_call 12; fail))
    have HB7 := Lib.hid (below_appS (HB5.out.alloc HB5.out.size _) (HO5.out.alloc _) HG7.out (by have := HB5.out.size; rw [World.size_alloc]; omega))
    have HB8 := Lib.hid (below_appS HB7.out HO7.out HG8.out HB7.out.size)
    have hz8 := HB8.out.size
    obtain ⟨A8', c8', e8, hc8, -, hr8⟩ := own_viewS HO8.out
    cases e8
    have hlm : (l.take a ++ ((-1, 5) :: l.drop a)).length = a + 1 + (len0 - a) := by rw [List.length_append, List.length_cons, List.length_take, List.length_drop, HN.out]; omega
    have hrm : Rd w8 w8.heap.size A8 (svs (l.take a ++ ((-1, 5) :: l.drop a))) := by
      rw [svs_app, show svs ((-1, 5) :: l.drop a) = sv (-1, 5) ++ svs (l.drop a) from rfl, ← List.append_assoc]
      exact hr8
    have hlw : Wl (l.take a ++ ((-1, 5) :: l.drop a)) := fun p hp => by
      rcases List.mem_append.1 hp with h | h
      · exact HL.out p (List.mem_of_mem_take h)
      · rcases List.mem_cons.1 h with rfl | h
        · exact ⟨⟨by decide, by decide⟩, by decide, by decide⟩
        · exact HL.out p (List.mem_of_mem_drop h)
    refine (Drift_any A8 (a + 1 + (len0 - a)) c8 w8.heap.size _ a1 len1 cap1 w.heap.size x1 a2 a3 len3 cap3 w.heap.size x3 a4 w8 hrm hlm hc8 (Nat.le_refl _) hlw (by omega) (HR1.out.below HB8.out) HN1.out hz8 HX1.out (by omega) (HR3.out.below HB8.out) HN3.out hz8 HX3.out (by omega)).mono ?_
    rintro e w9 ⟨b9, rfl, hbi9, hb9⟩
    have HB9 := Lib.hid (HB8.out.trans (hb9.mono hz8))
    have hs9 := same_bool (HBI.out.trans (Cl.dr_put (a := a) (by rw [HN.out]; exact hal) (p := (-1, 5)) (by decide)).symm) hbi9
    subst hs9
    have hz9 := HB9.out.size
    clear hr8 hlm hrm hlw hbi9 hb9 HB4 HB5 HB7 HB8 HO5 HO7 HO8 HG7 HG8 HM4 s1 s2 HS1 HS2 HSL1 HSL2 hi1 hj1 hy1 ht1 hz8 hc8
    cases b1 with
    | false =>
      go_wp2_with fail
      refine region_C (fun W => Below w.heap.size w W) (by kernel_rfl) ?_
      have hC : Below w.heap.size w w9.drew := HB9.out.drew
      generalize w9.drew = w10 at *
      refine anyC_take (i := 0) (v := ?v0_1) (a' := ?a0_1) rfl (by kernel_rfl) (by kernel_rfl) (by kernel_rfl) (fun _ _ _ h => h) hC ?w0_1 ?y0_1 ?f0_1 ?r0_1
      case w0_1 => kernel_rfl
      case y0_1 => (intro w hC; go_simp; try with_reducible rfl)
      case f0_1 => (go_simp; try with_reducible rfl)
      refine anyC_take (i := 1) (v := ?v1_2) (a' := ?a1_2) rfl (by kernel_rfl) (by kernel_rfl) (by kernel_rfl) (fun _ _ _ h => h) hC ?w1_2 ?y1_2 ?f1_2 ?r1_2
      case w1_2 => kernel_rfl
      case y1_2 => (intro w hC; go_simp; try with_reducible rfl)
      case f1_2 => (go_simp; try with_reducible rfl)
      refine anyC_take (i := 2) (v := ?v2_3) (a' := ?a2_3) rfl (by kernel_rfl) (by kernel_rfl) (by kernel_rfl) (fun _ _ _ h => h) hC ?w2_3 ?y2_3 ?f2_3 ?r2_3
      case w2_3 => kernel_rfl
      case y2_3 => (intro w hC; go_simp; try with_reducible rfl)
      case f2_3 => (go_simp; try with_reducible rfl)
      refine anyC_take (i := 3) (v := ?v3_4) (a' := ?a3_4) rfl (by kernel_rfl) (by kernel_rfl) (by kernel_rfl) (fun _ _ _ h => h) hC ?w3_4 ?y3_4 ?f3_4 ?r3_4
      case w3_4 => kernel_rfl
      case y3_4 => (intro w hC; go_simp; try with_reducible rfl)
      case f3_4 => (go_simp; try with_reducible rfl)
      refine anyC_take (i := 4) (v := ?v4_5) (a' := ?a4_5) rfl (by kernel_rfl) (by kernel_rfl) (by kernel_rfl) (fun _ _ _ h => h) hC ?w4_5 ?y4_5 ?f4_5 ?r4_5
      case w4_5 => kernel_rfl
      case y4_5 => (intro w hC; go_simp; try with_reducible rfl)
      case f4_5 => (go_simp; try with_reducible rfl)
      refine anyC_skip (i := 5) (a' := ?a5_6) rfl (by kernel_rfl) (by kernel_rfl) (by kernel_rfl) (fun _ _ _ h => h) hC (by kernel_rfl) ?f5_6 ?r5_6
      case f5_6 => (go_simp; try with_reducible rfl)
      refine anyC_skip (i := 6) (a' := ?a6_7) rfl (by kernel_rfl) (by kernel_rfl) (by kernel_rfl) (fun _ _ _ h => h) hC (by kernel_rfl) ?f6_7 ?r6_7
      case f6_7 => (go_simp; try with_reducible rfl)
      refine anyC_skip (i := 7) (a' := ?a7_8) rfl (by kernel_rfl) (by kernel_rfl) (by kernel_rfl) (fun _ _ _ h => h) hC (by kernel_rfl) ?f7_8 ?r7_8
      case f7_8 => (go_simp; try with_reducible rfl)
      refine anyC_skip (i := 8) (a' := ?a8_9) rfl (by kernel_rfl) (by kernel_rfl) (by kernel_rfl) (fun _ _ _ h => h) hC (by kernel_rfl) ?f8_9 ?r8_9
      case f8_9 => (go_simp; try with_reducible rfl)
      refine anyC_skip (i := 9) (a' := ?a9_10) rfl (by kernel_rfl) (by kernel_rfl) (by kernel_rfl) (fun _ _ _ h => h) hC (by kernel_rfl) ?f9_10 ?r9_10
      case f9_10 => (go_simp; try with_reducible rfl)
      refine anyC_skip (i := 10) (a' := ?a10_11) rfl (by kernel_rfl) (by kernel_rfl) (by kernel_rfl) (fun _ _ _ h => h) hC (by kernel_rfl) ?f10_11 ?r10_11
      case f10_11 => (go_simp; try with_reducible rfl)
      refine anyC_skip (i := 11) (a' := ?a11_12) rfl (by kernel_rfl) (by kernel_rfl) (by kernel_rfl) (fun _ _ _ h => h) hC (by kernel_rfl) ?f11_12 ?r11_12
      case f11_12 => (go_simp; try with_reducible rfl)
      refine anyC_skip (i := 12) (a' := ?a12_13) rfl (by kernel_rfl) (by kernel_rfl) (by kernel_rfl) (fun _ _ _ h => h) hC (by kernel_rfl) ?f12_13 ?r12_13
      case f12_13 => (go_simp; try with_reducible rfl)
      refine anyC_skip (i := 13) (a' := ?a13_14) rfl (by kernel_rfl) (by kernel_rfl) (by kernel_rfl) (fun _ _ _ h => h) hC (by kernel_rfl) ?f13_14 ?r13_14
      case f13_14 => (go_simp; try with_reducible rfl)
      refine anyC_skip (i := 14) (a' := ?a14_15) rfl (by kernel_rfl) (by kernel_rfl) (by kernel_rfl) (fun _ _ _ h => h) hC (by kernel_rfl) ?f14_15 ?r14_15
      case f14_15 => (go_simp; try with_reducible rfl)
      refine anyC_skip (i := 15) (a' := ?a15_16) rfl (by kernel_rfl) (by kernel_rfl) (by kernel_rfl) (fun _ _ _ h => h) hC (by kernel_rfl) ?f15_16 ?r15_16
      case f15_16 => (go_simp; try with_reducible rfl)
      refine anyC_skip (i := 16) (a' := ?a16_17) rfl (by kernel_rfl) (by kernel_rfl) (by kernel_rfl) (fun _ _ _ h => h) hC (by kernel_rfl) ?f16_17 ?r16_17
      case f16_17 => (go_simp; try with_reducible rfl)
      refine anyC_skip (i := 17) (a' := ?a17_18) rfl (by kernel_rfl) (by kernel_rfl) (by kernel_rfl) (fun _ _ _ h => h) hC (by kernel_rfl) ?f17_18 ?r17_18
      case f17_18 => (go_simp; try with_reducible rfl)
      refine anyC_skip (i := 18) (a' := ?a18_19) rfl (by kernel_rfl) (by kernel_rfl) (by kernel_rfl) (fun _ _ _ h => h) hC (by kernel_rfl) ?f18_19 ?r18_19
      case f18_19 => (go_simp; try with_reducible rfl)
      refine anyC_skip (i := 19) (a' := ?a19_20) rfl (by kernel_rfl) (by kernel_rfl) (by kernel_rfl) (fun _ _ _ h => h) hC (by kernel_rfl) ?f19_20 ?r19_20
      case f19_20 => (go_simp; try with_reducible rfl)
      refine anyC_skip (i := 20) (a' := ?a20_21) rfl (by kernel_rfl) (by kernel_rfl) (by kernel_rfl) (fun _ _ _ h => h) hC (by kernel_rfl) ?f20_21 ?r20_21
      case f20_21 => (go_simp; try with_reducible rfl)
      refine anyC_skip (i := 21) (a' := ?a21_22) rfl (by kernel_rfl) (by kernel_rfl) (by kernel_rfl) (fun _ _ _ h => h) hC (by kernel_rfl) ?f21_22 ?r21_22
      case f21_22 => (go_simp; try with_reducible rfl)
      refine anyC_skip (i := 22) (a' := ?a22_23) rfl (by kernel_rfl) (by kernel_rfl) (by kernel_rfl) (fun _ _ _ h => h) hC (by kernel_rfl) ?f22_23 ?r22_23
      case f22_23 => (go_simp; try with_reducible rfl)
      refine anyC_skip (i := 23) (a' := ?a23_24) rfl (by kernel_rfl) (by kernel_rfl) (by kernel_rfl) (fun _ _ _ h => h) hC (by kernel_rfl) ?f23_24 ?r23_24
      case f23_24 => (go_simp; try with_reducible rfl)
      refine anyC_skip (i := 24) (a' := ?a24_25) rfl (by kernel_rfl) (by kernel_rfl) (by kernel_rfl) (fun _ _ _ h => h) hC (by kernel_rfl) ?f24_25 ?r24_25
      case f24_25 => (go_simp; try with_reducible rfl)
      refine anyC_skip (i := 25) (a' := ?a25_26) rfl (by kernel_rfl) (by kernel_rfl) (by kernel_rfl) (fun _ _ _ h => h) hC (by kernel_rfl) ?f25_26 ?r25_26
      case f25_26 => (go_simp; try with_reducible rfl)
      refine anyC_skip (i := 26) (a' := ?a26_27) rfl (by kernel_rfl) (by kernel_rfl) (by kernel_rfl) (fun _ _ _ h => h) hC (by kernel_rfl) ?f26_27 ?r26_27
      case f26_27 => (go_simp; try with_reducible rfl)
      refine anyC_skip (i := 27) (a' := ?a27_28) rfl (by kernel_rfl) (by kernel_rfl) (by kernel_rfl) (fun _ _ _ h => h) hC (by kernel_rfl) ?f27_28 ?r27_28
      case f27_28 => (go_simp; try with_reducible rfl)
      refine anyC_skip (i := 28) (a' := ?a28_29) rfl (by kernel_rfl) (by kernel_rfl) (by kernel_rfl) (fun _ _ _ h => h) hC (by kernel_rfl) ?f28_29 ?r28_29
      case f28_29 => (go_simp; try with_reducible rfl)
      refine anyC_skip (i := 29) (a' := ?a29_30) rfl (by kernel_rfl) (by kernel_rfl) (by kernel_rfl) (fun _ _ _ h => h) hC (by kernel_rfl) ?f29_30 ?r29_30
      case f29_30 => (go_simp; try with_reducible rfl)
      refine anyC_take (i := 30) (v := ?v30_31) (a' := ?a30_31) rfl (by kernel_rfl) (by kernel_rfl) (by kernel_rfl) (fun _ _ _ h => h) hC ?w30_31 ?y30_31 ?f30_31 ?r30_31
      case w30_31 => kernel_rfl
      case y30_31 => (intro w hC; go_simp; try with_reducible rfl)
      case f30_31 => (go_simp; try with_reducible rfl)
      refine anyC_take (i := 31) (v := ?v31_32) (a' := ?a31_32) rfl (by kernel_rfl) (by kernel_rfl) (by kernel_rfl) (fun _ _ _ h => h) hC ?w31_32 ?y31_32 ?f31_32 ?r31_32
      case w31_32 => kernel_rfl
      case y31_32 => (intro w hC; go_simp; try with_reducible rfl)
      case f31_32 => (go_simp; try with_reducible rfl)
      refine anyC_take (i := 32) (v := ?v32_33) (a' := ?a32_33) rfl (by kernel_rfl) (by kernel_rfl) (by kernel_rfl) (fun _ _ _ h => h) hC ?w32_33 ?y32_33 ?f32_33 ?r32_33
      case w32_33 => kernel_rfl
      case y32_33 => (intro w hC; go_simp; try with_reducible rfl)
      case f32_33 => (go_simp; try with_reducible rfl)
      refine anyC_done (by kernel_rfl) ?_
      go_wp2
      go_ret
      exact ⟨rfl, hC⟩
    | true =>
      have hdr := HBI.out.1 rfl
      have h11 : len1 / 2 ≤ len1 := by omega
      have h33 : len3 / 2 ≤ len3 := by omega
      have HRr : Hid (∀ W, Below w.heap.size w W → Rd W w.heap.size (cutS a0 a cap0) (svs (Cl.row l a (a + r)))) := Lib.hid (fun W h => by
        unfold Cl.row
        refine Rd.cutS ?_ (by rw [List.length_take, HN.out]; omega)
        rw [← svs_take]
        exact (HR.out.below h).take _)
      have HRl : Hid ((Cl.row l a (a + r)).length = r) := Lib.hid (by unfold Cl.row; rw [List.length_drop, List.length_take, HN.out]; omega)
      have HSM : Hid (∀ W, (Instr.slice 22 (.slice a0 len0 cap0) (some (.int .i64 (a : Int))) (some (.int .i64 ((a : Int) + (r : Int)))) none).run Try.prog W = .ok (.slice (cutS a0 a cap0) r (cap0 - a)) W) := Lib.hid (fun W => by
        have h := run_cutSm a0 len0 cap0 a (a + r) (by omega) (by omega) W
        rw [Nat.add_sub_cancel_left] at h
        exact h)
      have HRw : Hid (Wl (Cl.row l a (a + r))) := Lib.hid (HL.out.sub (fun p hp => List.mem_of_mem_take (List.mem_of_mem_drop hp)))
      have HE1 := Lib.hid (hdr.row (a := a) (b := a + r) (by rw [HN.out]; omega))
      have HE2 := Lib.hid (hdr.few (some' := x1.take (len1 / 2)) (others' := x3.take (len3 / 2)) (fun a ha => List.mem_of_mem_take ha) (fun b hb => List.mem_of_mem_take hb))
      have HR1h : Hid (∀ W, Below w.heap.size w W → Rd W w.heap.size (cutA a1 0 cap1) (i64s (x1.take (len1 / 2)))) := Lib.hid (fun W h => Rd.cutIh (HR1.out.below h) (by rw [HN1.out]; exact hnc1))
      have HR3h : Hid (∀ W, Below w.heap.size w W → Rd W w.heap.size (cutA a3 0 cap3) (i64s (x3.take (len3 / 2)))) := Lib.hid (fun W h => Rd.cutIh (HR3.out.below h) (by rw [HN3.out]; exact hnc3))
      have HN1h : Hid ((x1.take (len1 / 2)).length = len1 / 2) := Lib.hid (by rw [List.length_take, HN1.out]; omega)
      have HN3h : Hid ((x3.take (len3 / 2)).length = len3 / 2) := Lib.hid (by rw [List.length_take, HN3.out]; omega)
      have q1 : (len1 : Int).tdiv 2 = ((len1 / 2 : Nat) : Int) := by rw [Int.tdiv_eq_ediv_of_nonneg (by omega)]; omega
      have q3 : (len3 : Int).tdiv 2 = ((len3 / 2 : Nat) : Int) := by rw [Int.tdiv_eq_ediv_of_nonneg (by omega)]; omega
      have p1 : IntKind.i64.wrap ((len1 / 2 : Nat) : Int) = ((len1 / 2 : Nat) : Int) := by rw [IntKind.wrap_i64]; omega
      have p3 : IntKind.i64.wrap ((len3 / 2 : Nat) : Int) = ((len3 / 2 : Nat) : Int) := by rw [IntKind.wrap_i64]; omega
      clear hdr HBI
      go_wp2_with fail
      refine region_C (fun W => Below w.heap.size w W) (by kernel_rfl) ?_
      have hC : Below w.heap.size w w9.drew := HB9.out.drew
      generalize w9.drew = w10 at *
      generalize len1 / 2 = n1 at *
      generalize len3 / 2 = n3 at *
      refine anyC_take (i := 0) (v := ?v0_34) (a' := ?a0_34) rfl (by kernel_rfl) (by kernel_rfl) (by kernel_rfl) (fun _ _ _ h => h) hC ?w0_34 ?y0_34 ?f0_34 ?r0_34
      case w0_34 => kernel_rfl
      case y0_34 => (intro w hC; go_simp; try with_reducible rfl)
      case f0_34 => (go_simp; try with_reducible rfl)
      refine anyC_take (i := 1) (v := ?v1_35) (a' := ?a1_35) rfl (by kernel_rfl) (by kernel_rfl) (by kernel_rfl) (fun _ _ _ h => h) hC ?w1_35 ?y1_35 ?f1_35 ?r1_35
      case w1_35 => kernel_rfl
      case y1_35 => (intro w hC; go_simp; try with_reducible rfl)
      case f1_35 => (go_simp; try with_reducible rfl)
      refine anyC_take (i := 2) (v := ?v2_36) (a' := ?a2_36) rfl (by kernel_rfl) (by kernel_rfl) (by kernel_rfl) (fun _ _ _ h => h) hC ?w2_36 ?y2_36 ?f2_36 ?r2_36
      case w2_36 => kernel_rfl
      case y2_36 => (intro w hC; go_simp; try with_reducible rfl)
      case f2_36 => (go_simp; try with_reducible rfl)
      refine anyC_take (i := 3) (v := ?v3_37) (a' := ?a3_37) rfl (by kernel_rfl) (by kernel_rfl) (by kernel_rfl) (fun _ _ _ h => h) hC ?w3_37 ?y3_37 ?f3_37 ?r3_37
      case w3_37 => kernel_rfl
      case y3_37 => (intro w hC; go_simp; try with_reducible rfl)
      case f3_37 => (go_simp; try with_reducible rfl)
      refine anyC_take (i := 4) (v := ?v4_38) (a' := ?a4_38) rfl (by kernel_rfl) (by kernel_rfl) (by kernel_rfl) (fun _ _ _ h => h) hC ?w4_38 ?y4_38 ?f4_38 ?r4_38
      case w4_38 => kernel_rfl
      case y4_38 => (intro w hC; go_simp; try with_reducible rfl)
      case f4_38 => (go_simp; try with_reducible rfl)
      refine anyC_take (i := 5) (v := ?v5_39) (a' := ?a5_39) rfl (by kernel_rfl) (by kernel_rfl) (by kernel_rfl) (fun _ _ _ h => h) hC ?w5_39 ?y5_39 ?f5_39 ?r5_39
      case w5_39 => kernel_rfl
      case y5_39 => (intro w hC; go_simp; try with_reducible rfl)
      case f5_39 => (go_simp; try with_reducible rfl)
      refine anyC_take (i := 6) (v := ?v6_40) (a' := ?a6_40) rfl (by kernel_rfl) (by kernel_rfl) (by kernel_rfl) (fun _ _ _ h => h) hC ?w6_40 ?y6_40 ?f6_40 ?r6_40
      case w6_40 => kernel_rfl
      case y6_40 => (intro w hC; go_simp; try with_reducible rfl)
      case f6_40 => (go_simp; try with_reducible rfl)
      refine anyC_take (i := 7) (v := ?v7_41) (a' := ?a7_41) rfl (by kernel_rfl) (by kernel_rfl) (by kernel_rfl) (fun _ _ _ h => h) hC ?w7_41 ?y7_41 ?f7_41 ?r7_41
      case w7_41 => kernel_rfl
      case y7_41 => (intro w hC; go_simp; try with_reducible rfl)
      case f7_41 => (go_simp; try with_reducible rfl)
      refine anyC_take (i := 8) (v := ?v8_42) (a' := ?a8_42) rfl (by kernel_rfl) (by kernel_rfl) (by kernel_rfl) (fun _ _ _ h => h) hC ?w8_42 ?y8_42 ?f8_42 ?r8_42
      case w8_42 => kernel_rfl
      case y8_42 => (intro w hC; have h4 := HSM.out w; go_simp; try with_reducible rfl)
      case f8_42 => (go_simp; try with_reducible rfl)
      refine anyC_take (i := 9) (v := ?v9_43) (a' := ?a9_43) rfl (by kernel_rfl) (by kernel_rfl) (by kernel_rfl) (fun _ _ _ h => h) hC ?w9_43 ?y9_43 ?f9_43 ?r9_43
      case w9_43 => kernel_rfl
      case y9_43 => (intro w hC; go_simp; try with_reducible rfl)
      case f9_43 => (go_simp; try with_reducible rfl)
      refine anyC_take (i := 10) (v := ?v10_44) (a' := ?a10_44) rfl (by kernel_rfl) (by kernel_rfl) (by kernel_rfl) (fun _ _ _ h => h) hC ?w10_44 ?y10_44 ?f10_44 ?r10_44
      case w10_44 => kernel_rfl
      case y10_44 => (intro w hC; go_simp; try with_reducible rfl)
      case f10_44 => (go_simp; try with_reducible rfl)
      refine anyC_take (i := 11) (v := ?v11_45) (a' := ?a11_45) rfl (by kernel_rfl) (by kernel_rfl) (by kernel_rfl) (fun _ _ _ h => h) hC ?w11_45 ?y11_45 ?f11_45 ?r11_45
      case w11_45 => kernel_rfl
      case y11_45 => (intro w hC; go_simp; try with_reducible rfl)
      case f11_45 => (go_simp; try with_reducible rfl)
      refine anyC_take (i := 12) (v := ?v12_46) (a' := ?a12_46) rfl (by kernel_rfl) (by kernel_rfl) (by kernel_rfl) (fun _ _ _ h => h) hC ?w12_46 ?y12_46 ?f12_46 ?r12_46
      case w12_46 => kernel_rfl
      case y12_46 => (intro w hC; go_simp; try with_reducible rfl)
      case f12_46 => (go_simp; try with_reducible rfl)
      refine anyC_one (i := 13) rfl (by kernel_rfl) (by kernel_rfl) (fun K hK => ?_)
      go_simp
      refine (Drift_any (cutS a0 a cap0) r (cap0 - a) w.heap.size (Cl.row l a (a + r)) a1 len1 cap1 w.heap.size x1 a2 a3 len3 cap3 w.heap.size x3 a4 w10 (HRr.out w10 hC) HRl.out (by omega) hC.size HRw.out (by omega) (HR1.out.below hC) HN1.out hC.size HX1.out (by omega) (HR3.out.below hC) HN3.out hC.size HX3.out (by omega)).mono ?_
      rintro e w11 ⟨b11, rfl, hbi11, hb11⟩
      obtain rfl := hbi11.2 HE1.out
      have hC11 : Below w.heap.size w w11 := hC.trans (hb11.mono hC.size)
      refine hK _ _ ⟨hC11, ?_⟩
      clear hbi11 hb11 hC
      refine anyC_take (i := 14) (v := ?v14_47) (a' := ?a14_47) rfl (by kernel_rfl) (by kernel_rfl) (by kernel_rfl) (fun _ _ _ h => h) hC11 ?w14_47 ?y14_47 ?f14_47 ?r14_47
      case w14_47 => kernel_rfl
      case y14_47 => (intro w hC; go_simp; try with_reducible rfl)
      case f14_47 => (go_simp; try with_reducible rfl)
      refine anyC_take (i := 15) (v := ?v15_48) (a' := ?a15_48) rfl (by kernel_rfl) (by kernel_rfl) (by kernel_rfl) (fun _ _ _ h => h) hC11 ?w15_48 ?y15_48 ?f15_48 ?r15_48
      case w15_48 => kernel_rfl
      case y15_48 => (intro w hC; go_simp; try with_reducible rfl)
      case f15_48 => (go_simp; try with_reducible rfl)
      refine anyC_take (i := 16) (v := ?v16_49) (a' := ?a16_49) rfl (by kernel_rfl) (by kernel_rfl) (by kernel_rfl) (fun _ _ _ h => h) hC11 ?w16_49 ?y16_49 ?f16_49 ?r16_49
      case w16_49 => kernel_rfl
      case y16_49 => (intro w hC; go_simp; try with_reducible rfl)
      case f16_49 => (go_simp; try with_reducible rfl)
      refine anyC_take (i := 17) (v := ?v17_50) (a' := ?a17_50) rfl (by kernel_rfl) (by kernel_rfl) (by kernel_rfl) (fun _ _ _ h => h) hC11 ?w17_50 ?y17_50 ?f17_50 ?r17_50
      case w17_50 => kernel_rfl
      case y17_50 => (intro w hC; go_simp; try with_reducible rfl)
      case f17_50 => (go_simp; try with_reducible rfl)
      refine anyC_take (i := 18) (v := ?v18_51) (a' := ?a18_51) rfl (by kernel_rfl) (by kernel_rfl) (by kernel_rfl) (fun _ _ _ h => h) hC11 ?w18_51 ?y18_51 ?f18_51 ?r18_51
      case w18_51 => kernel_rfl
      case y18_51 => (intro w hC; go_simp; try with_reducible rfl)
      case f18_51 => (go_simp; try with_reducible rfl)
      refine anyC_take (i := 21) (v := ?v21_52) (a' := ?a21_52) rfl (by kernel_rfl) (by kernel_rfl) (by kernel_rfl) (fun _ _ _ h => h) hC11 ?w21_52 ?y21_52 ?f21_52 ?r21_52
      case w21_52 => kernel_rfl
      case y21_52 => (intro w hC; go_simp; try with_reducible rfl)
      case f21_52 => (go_simp; try with_reducible rfl)
      refine anyC_take (i := 22) (v := ?v22_53) (a' := ?a22_53) rfl (by kernel_rfl) (by kernel_rfl) (by kernel_rfl) (fun _ _ _ h => h) hC11 ?w22_53 ?y22_53 ?f22_53 ?r22_53
      case w22_53 => kernel_rfl
      case y22_53 => (intro w hC; go_simp; try with_reducible rfl)
      case f22_53 => (go_simp; try with_reducible rfl)
      refine anyC_take (i := 23) (v := ?v23_54) (a' := ?a23_54) rfl (by kernel_rfl) (by kernel_rfl) (by kernel_rfl) (fun _ _ _ h => h) hC11 ?w23_54 ?y23_54 ?f23_54 ?r23_54
      case w23_54 => kernel_rfl
      case y23_54 => (intro w hC; go_simp; try with_reducible rfl)
      case f23_54 => (go_simp; try with_reducible rfl)
      refine anyC_take (i := 24) (v := ?v24_55) (a' := ?a24_55) rfl (by kernel_rfl) (by kernel_rfl) (by kernel_rfl) (fun _ _ _ h => h) hC11 ?w24_55 ?y24_55 ?f24_55 ?r24_55
      case w24_55 => kernel_rfl
      case y24_55 => (intro w hC; go_simp; try with_reducible rfl)
      case f24_55 => (go_simp; try with_reducible rfl)
      refine anyC_take (i := 27) (v := ?v27_56) (a' := ?a27_56) rfl (by kernel_rfl) (by kernel_rfl) (by kernel_rfl) (fun _ _ _ h => h) hC11 ?w27_56 ?y27_56 ?f27_56 ?r27_56
      case w27_56 => kernel_rfl
      case y27_56 => (intro w hC; go_simp; try with_reducible rfl)
      case f27_56 => (go_simp; try with_reducible rfl)
      refine anyC_take (i := 19) (v := ?v19_57) (a' := ?a19_57) rfl (by kernel_rfl) (by kernel_rfl) (by kernel_rfl) (fun _ _ _ h => h) hC11 ?w19_57 ?y19_57 ?f19_57 ?r19_57
      case w19_57 => kernel_rfl
      case y19_57 => (intro w hC; have h4 := q1; have h5 := p1; go_simp; try with_reducible rfl)
      case f19_57 => (go_simp; try with_reducible rfl)
      refine anyC_take (i := 25) (v := ?v25_58) (a' := ?a25_58) rfl (by kernel_rfl) (by kernel_rfl) (by kernel_rfl) (fun _ _ _ h => h) hC11 ?w25_58 ?y25_58 ?f25_58 ?r25_58
      case w25_58 => kernel_rfl
      case y25_58 => (intro w hC; have h4 := q3; have h5 := p3; go_simp; try with_reducible rfl)
      case f25_58 => (go_simp; try with_reducible rfl)
      refine anyC_take (i := 20) (v := ?v20_59) (a' := ?a20_59) rfl (by kernel_rfl) (by kernel_rfl) (by kernel_rfl) (fun _ _ _ h => h) hC11 ?w20_59 ?y20_59 ?f20_59 ?r20_59
      case w20_59 => kernel_rfl
      case y20_59 => (intro w hC; have h4 := run_cutIh a1 len1 cap1 n1 (by omega) w; go_simp; try with_reducible rfl)
      case f20_59 => (go_simp; try with_reducible rfl)
      refine anyC_take (i := 26) (v := ?v26_60) (a' := ?a26_60) rfl (by kernel_rfl) (by kernel_rfl) (by kernel_rfl) (fun _ _ _ h => h) hC11 ?w26_60 ?y26_60 ?f26_60 ?r26_60
      case w26_60 => kernel_rfl
      case y26_60 => (intro w hC; have h4 := run_cutIh a3 len3 cap3 n3 (by omega) w; go_simp; try with_reducible rfl)
      case f26_60 => (go_simp; try with_reducible rfl)
      refine anyC_one (i := 28) rfl (by kernel_rfl) (by kernel_rfl) (fun K hK => ?_)
      go_simp
      refine (Drift_any a0 len0 cap0 w.heap.size l (cutA a1 0 cap1) n1 cap1 w.heap.size (x1.take n1) a2 (cutA a3 0 cap3) n3 cap3 w.heap.size (x3.take n3) a4 w11 (HR.out.below hC11) HN.out hnc hC11.size HL.out (by omega) (HR1h.out w11 hC11) HN1h.out hC11.size (fun x hx => HX1.out x (List.mem_of_mem_take hx)) (by omega) (HR3h.out w11 hC11) HN3h.out hC11.size (fun x hx => HX3.out x (List.mem_of_mem_take hx)) (by omega)).mono ?_
      rintro e w12 ⟨b12, rfl, hbi12, hb12⟩
      obtain rfl := hbi12.2 HE2.out
      have hC12 : Below w.heap.size w w12 := hC11.trans (hb12.mono hC11.size)
      refine hK _ _ ⟨hC12, ?_⟩
      clear hbi12 hb12 hC11
      refine anyC_take (i := 29) (v := ?v29_61) (a' := ?a29_61) rfl (by kernel_rfl) (by kernel_rfl) (by kernel_rfl) (fun _ _ _ h => h) hC12 ?w29_61 ?y29_61 ?f29_61 ?r29_61
      case w29_61 => kernel_rfl
      case y29_61 => (intro w hC; go_simp; try with_reducible rfl)
      case f29_61 => (go_simp; try with_reducible rfl)
      refine anyC_take (i := 30) (v := ?v30_62) (a' := ?a30_62) rfl (by kernel_rfl) (by kernel_rfl) (by kernel_rfl) (fun _ _ _ h => h) hC12 ?w30_62 ?y30_62 ?f30_62 ?r30_62
      case w30_62 => kernel_rfl
      case y30_62 => (intro w hC; go_simp; try with_reducible rfl)
      case f30_62 => (go_simp; try with_reducible rfl)
      refine anyC_take (i := 31) (v := ?v31_63) (a' := ?a31_63) rfl (by kernel_rfl) (by kernel_rfl) (by kernel_rfl) (fun _ _ _ h => h) hC12 ?w31_63 ?y31_63 ?f31_63 ?r31_63
      case w31_63 => kernel_rfl
      case y31_63 => (intro w hC; go_simp; try with_reducible rfl)
      case f31_63 => (go_simp; try with_reducible rfl)
      refine anyC_take (i := 32) (v := ?v32_64) (a' := ?a32_64) rfl (by kernel_rfl) (by kernel_rfl) (by kernel_rfl) (fun _ _ _ h => h) hC12 ?w32_64 ?y32_64 ?f32_64 ?r32_64
      case w32_64 => kernel_rfl
      case y32_64 => (intro w hC; go_simp; try with_reducible rfl)
      case f32_64 => (go_simp; try with_reducible rfl)
      refine anyC_done (by kernel_rfl) ?_
      go_wp2
      go_ret
      exact ⟨rfl, hC12⟩
  · refine (great_yes _ _ _ _ _ _ _ _ _ _ hg).mono ?_
    rintro e w2 ⟨rfl, rfl⟩
    go_wp2
    go_ret
    exact ⟨rfl, hb1⟩
end Go.Proofs.Ytfdpogbhhocaeaa
