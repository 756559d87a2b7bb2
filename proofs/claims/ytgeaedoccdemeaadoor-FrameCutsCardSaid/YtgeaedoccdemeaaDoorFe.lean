/- The frame at any place of any bytes: the program's. -/
import Derived.Test.YtgeaedoccdemeaaDoorFg
namespace Go.Proofs.YtgeaedoccdemeaaDoor
open Go.RowKit Go.Shelf

set_option maxRecDepth 100000 in
set_option maxHeartbeats 4000000 in
theorem Get_any (A : Option Addr) (n cap B : Nat) (xs : List Int) (t : Int) (w : World) (hx : Rd w B A (u8s xs)) (hn : xs.length = n) (hnc : n ≤ cap) (hcap : cap ≤ maxLen) (hB : B ≤ w.heap.size) (hb : Fm.By xs) (ht : Tab w)
    (t0 : -9223372036854775808 ≤ t) (t1 : t ≤ 9223372036854775807) :
    Calls Tryd.prog 13 #[.slice A n cap, .int .i64 t] w fun e w' => ∃ v, e = .returned (.tuple #[.int .u8 (Fm.get xs t).1, v, .int .i64 (Fm.get xs t).2.2.1, .int .i64 (Fm.get xs t).2.2.2]) ∧
      w'.ownsRow w.heap.size 5 1 v (Fm.get xs t).2.1.length (u8s (Fm.get xs t).2.1) ∧ Below w.heap.size w w' := by
  have hcap' := hcap
  unfold maxLen at hcap'
  by_cases h1 : t < 0
  · have HE := Lib.hid (Fm.get_arg (b := xs) (t := t) (.inl h1))
    have hd : decide (t < 0) = true := by simpa using h1
    clear hx hb ht
    go_enter Tryd.func13, Tryd.ntmps13
    go_wp2
    (try simp only [Exit.inBlock, Exit.then]); refine bodyPost_ret (results_tmp4 rfl _ _ _) rfl ?_
    rw [HE.out]
    exact ⟨_, rfl, own_none, Below.refl _ _⟩
  by_cases h2 : (n : Int) < t
  · have HE := Lib.hid (Fm.get_arg (b := xs) (t := t) (.inr (by omega)))
    have hd : decide (t < 0) = false := by simpa using h1
    clear hx hb ht
    go_enter Tryd.func13, Tryd.ntmps13
    go_wp2
    (try simp only [Exit.inBlock, Exit.then]); refine bodyPost_ret (results_tmp4 rfl _ _ _) rfl ?_
    rw [HE.out]
    exact ⟨_, rfl, own_none, Below.refl _ _⟩
  obtain ⟨m, rfl⟩ := Int.eq_ofNat_of_zero_le (show 0 ≤ t by omega)
  obtain ⟨i0, hi, hz0, hz1, hz2⟩ := info_parts info_u8
  have hsl := fun W => run_cut_l (P := Tryd.prog) Tryd.underlying22 (size_of_info hi hz1) A n cap m (by omega) W
  have hd1 : decide ((m : Int) < 0) = false := by simp
  have hd2 : decide ((n : Int) < (m : Int)) = false := by simp; omega
  have HC := Lib.hid (measure_any (cutA A m cap) (n - m) (cap - m) B (xs.drop m) w (hx.dropU (k := m) (cap := cap) (by omega)) (by rw [List.length_drop, hn]) (by omega) (by omega) hB (hb.drop m) ht)
  by_cases he : (Fm.meas (xs.drop m)).2 = 0
  case neg =>
    have HE := Lib.hid (Fm.get_err (n := m) (by omega) he)
    generalize Fm.meas (xs.drop m) = q at HC HE he
    obtain ⟨q1, q2⟩ := q
    dsimp only at HC HE he
    have hq : (q2 != 0) = true := by rw [bne_iff_ne]; exact he
    clear hx hb ht he hi hz0 hz1 hz2
    go_enter Tryd.func13, Tryd.ntmps13
    go_wp2_with (go_at_call 20; refine HC.out.mono ?_; rintro e w' ⟨rfl, hb1⟩)
    (try simp only [Exit.inBlock, Exit.then]); refine bodyPost_ret (results_tmp4 rfl _ _ _) rfl ?_
    rw [HE.out]
    exact ⟨_, rfl, own_none, hb1⟩
  obtain ⟨e1, -, h5, h6, -⟩ := Fm.meas_zero he
  have HE := Lib.hid (Fm.get_ok (n := m) (by omega) he)
  obtain ⟨k, hk⟩ : ∃ k, k = Fm.ln (xs.drop m) := ⟨_, rfl⟩
  rw [← hk] at e1 h5 h6 HE
  have e2 : Fm.meas (xs.drop m) = ((k : Int) + 8, 0) := by rw [e1]; congr 1
  rw [e2] at HC
  rw [List.length_drop, hn] at h6
  obtain ⟨x1, hx1⟩ : ∃ x, xs[m + 1]? = some x := ⟨xs[m + 1], List.getElem?_eq_getElem (by omega)⟩
  obtain ⟨ad, rfl, hab, hc1⟩ := hx.getU hx1
  have hg1 : (xs.drop m).getD 1 0 = x1 := getD_of (by rw [List.getElem?_drop]; exact hx1)
  rw [hg1] at HE
  have hsB : ∀ W, (Instr.slice 22 (.slice (some ad) n cap) (some (.int .i64 ((m : Int) + 4))) (some (.int .i64 ((m : Int) + ((k : Int) + 8) - 4))) none).run Tryd.prog W = .ok (.slice (cutA (some ad) (m + 4) cap) k (cap - (m + 4))) W := fun W => by
    have h := run_cut_lh (P := Tryd.prog) Tryd.underlying22 (size_of_info hi hz1) (some ad) n cap (m + 4) (m + 4 + k) (by omega) (by omega) W
    rwa [show (((m + 4 : Nat)) : Int) = (m : Int) + 4 by omega, show (((m + 4 + k : Nat)) : Int) = (m : Int) + ((k : Int) + 8) - 4 by omega, show m + 4 + k - (m + 4) = k by omega] at h
  have hrB := (hx.dropU (k := m + 4) (cap := cap) (by omega)).takeU k
  obtain ⟨ad2, had2⟩ := cutA_some ad (m + 4) cap
  rw [had2] at hsB hrB
  have HRB := Lib.hid hrB
  have HL : Hid (((xs.drop (m + 4)).take k).length = k) := by
    show _ = _
    rw [List.length_take, List.length_drop]; omega
  have HD : Hid ((xs.drop m).drop 4 = xs.drop (m + 4)) := by
    show _ = _
    rw [List.drop_drop]
  have HX1 : Hid (∀ w', Below w.heap.size w w' → w'.cell? ⟨ad.block, ad.off + (m + 1), none⟩ = some (.int .u8 x1)) := fun w' h => (h.cell (by dsimp only; omega)).trans hc1
  have i1 : (m : Int) + 1 < (n : Int) := by omega
  have j1 : (0 : Int) ≤ (m : Int) + 1 := by omega
  clear hx hb ht he hi hz0 hz1 hz2 e1 e2 hk hx1 hg1 hrB had2 hc1
  go_enter Tryd.func13, Tryd.ntmps13
  go_wp2_with (go_at_call 20; refine HC.out.mono ?_; rintro e w' ⟨rfl, hb1⟩)
  refine region_C (fun w' => Below w.heap.size w w') (by kernel_rfl) ?_
  obtain ⟨w1, hw1⟩ : ∃ w1, w1 = w'.drew := ⟨_, rfl⟩
  have hC : Below w.heap.size w w1 := by rw [hw1]; exact below_drawn hb1 1
  rw [← hw1]
  clear hw1 hb1
  have hq1 : IntKind.i64.wrap ((m : Int) + 1) = (m : Int) + 1 := IntWalk.i64_in _ (by omega)
  have hq4 : IntKind.i64.wrap ((m : Int) + 4) = (m : Int) + 4 := IntWalk.i64_in _ (by omega)
  have hq5 : IntKind.i64.wrap ((m : Int) + ((k : Int) + 8) - 4) = (m : Int) + ((k : Int) + 8) - 4 := IntWalk.i64_in _ (by omega)
  refine anyC_take (i := 0) (v := ?v0_1) (a' := ?a0_1) rfl (by kernel_rfl) (by kernel_rfl) (by kernel_rfl) (fun _ _ _ h => h) hC ?w0_1 ?y0_1 ?f0_1 ?r0_1
  case w0_1 => kernel_rfl
  case y0_1 => (intro w hC; go_simp; try with_reducible rfl)
  case f0_1 => (go_simp; try with_reducible rfl)
  refine anyC_take (i := 1) (v := ?v1_2) (a' := ?a1_2) rfl (by kernel_rfl) (by kernel_rfl) (by kernel_rfl) (fun _ _ _ h => h) hC ?w1_2 ?y1_2 ?f1_2 ?r1_2
  case w1_2 => kernel_rfl
  case y1_2 => (intro w hC; go_simp; try with_reducible rfl)
  case f1_2 => (go_simp; try with_reducible rfl)
  refine anyC_take (i := 2) (v := ?v2_3) (a' := ?a2_3) rfl (by kernel_rfl) (by kernel_rfl) (by kernel_rfl) (fun _ _ _ h => h) hC ?w2_3 ?y2_3 ?f2_3 ?r2_3
  case w2_3 => kernel_rfl
  case y2_3 => (intro w hC; go_simp; try with_reducible rfl)
  case f2_3 => (go_simp; try with_reducible rfl)
  refine anyC_take (i := 3) (v := ?v3_4) (a' := ?a3_4) rfl (by kernel_rfl) (by kernel_rfl) (by kernel_rfl) (fun _ _ _ h => h) hC ?w3_4 ?y3_4 ?f3_4 ?r3_4
  case w3_4 => kernel_rfl
  case y3_4 => (intro w hC; go_simp; try with_reducible rfl)
  case f3_4 => (go_simp; try with_reducible rfl)
  refine anyC_take (i := 4) (v := ?v4_5) (a' := ?a4_5) rfl (by kernel_rfl) (by kernel_rfl) (by kernel_rfl) (fun _ _ _ h => h) hC ?w4_5 ?y4_5 ?f4_5 ?r4_5
  case w4_5 => kernel_rfl
  case y4_5 => (intro w hC; have h4 := HX1.out w hC; go_simp; try with_reducible rfl)
  case f4_5 => (go_simp; try with_reducible rfl)
  refine anyC_take (i := 5) (v := ?v5_6) (a' := ?a5_6) rfl (by kernel_rfl) (by kernel_rfl) (by kernel_rfl) (fun _ _ _ h => h) hC ?w5_6 ?y5_6 ?f5_6 ?r5_6
  case w5_6 => kernel_rfl
  case y5_6 => (intro w hC; go_simp; try with_reducible rfl)
  case f5_6 => (go_simp; try with_reducible rfl)
  refine anyC_take (i := 6) (v := ?v6_7) (a' := ?a6_7) rfl (by kernel_rfl) (by kernel_rfl) (by kernel_rfl) (fun _ _ _ h => h) hC ?w6_7 ?y6_7 ?f6_7 ?r6_7
  case w6_7 => kernel_rfl
  case y6_7 => (intro w hC; go_simp; try with_reducible rfl)
  case f6_7 => (go_simp; try with_reducible rfl)
  refine anyC_take (i := 7) (v := ?v7_8) (a' := ?a7_8) rfl (by kernel_rfl) (by kernel_rfl) (by kernel_rfl) (fun _ _ _ h => h) hC ?w7_8 ?y7_8 ?f7_8 ?r7_8
  case w7_8 => kernel_rfl
  case y7_8 => (intro w hC; go_simp; try with_reducible rfl)
  case f7_8 => (go_simp; try with_reducible rfl)
  refine anyC_take (i := 8) (v := ?v8_9) (a' := ?a8_9) rfl (by kernel_rfl) (by kernel_rfl) (by kernel_rfl) (fun _ _ _ h => h) hC ?w8_9 ?y8_9 ?f8_9 ?r8_9
  case w8_9 => kernel_rfl
  case y8_9 => (intro w hC; go_simp; try with_reducible rfl)
  case f8_9 => (go_simp; try with_reducible rfl)
  refine anyC_take (i := 9) (v := ?v9_10) (a' := ?a9_10) rfl (by kernel_rfl) (by kernel_rfl) (by kernel_rfl) (fun _ _ _ h => h) hC ?w9_10 ?y9_10 ?f9_10 ?r9_10
  case w9_10 => kernel_rfl
  case y9_10 => (intro w hC; go_simp; try with_reducible rfl)
  case f9_10 => (go_simp; try with_reducible rfl)
  refine anyC_take (i := 10) (v := ?v10_11) (a' := ?a10_11) rfl (by kernel_rfl) (by kernel_rfl) (by kernel_rfl) (fun _ _ _ h => h) hC ?w10_11 ?y10_11 ?f10_11 ?r10_11
  case w10_11 => kernel_rfl
  case y10_11 => (intro w hC; go_simp; try with_reducible rfl)
  case f10_11 => (go_simp; try with_reducible rfl)
  refine anyC_take (i := 12) (v := ?v12_12) (a' := ?a12_12) rfl (by kernel_rfl) (by kernel_rfl) (by kernel_rfl) (fun _ _ _ h => h) hC ?w12_12 ?y12_12 ?f12_12 ?r12_12
  case w12_12 => kernel_rfl
  case y12_12 => (intro w hC; go_simp; try with_reducible rfl)
  case f12_12 => (go_simp; try with_reducible rfl)
  refine anyC_one (i := 11) rfl (by kernel_rfl) (by kernel_rfl) (fun K hK => ?_)
  go_simp
  go_wp2_with (go_at_call 21; fail)
  refine (Clone_any ad2 k (cap - (m + 4)) B ((xs.drop (m + 4)).take k) w1 (HRB.out.below (hC.mono hB)) HL.out (Nat.le_trans hB hC.size) (by omega)).mono ?_
  rintro e w2 ⟨v, rfl, hown, hb2⟩
  go_wp2_with fail
  have hC2 := hC.trans (hb2.mono hC.size)
  refine ⟨hC2, ?_⟩
  refine anyC_take (i := 13) (v := ?v13_13) (a' := ?a13_13) rfl (by kernel_rfl) (by kernel_rfl) (by kernel_rfl) (fun _ _ _ h => h) hC2 ?w13_13 ?y13_13 ?f13_13 ?r13_13
  case w13_13 => kernel_rfl
  case y13_13 => (intro w hC; go_simp; try with_reducible rfl)
  case f13_13 => (go_simp; try with_reducible rfl)
  refine anyC_take (i := 14) (v := ?v14_14) (a' := ?a14_14) rfl (by kernel_rfl) (by kernel_rfl) (by kernel_rfl) (fun _ _ _ h => h) hC2 ?w14_14 ?y14_14 ?f14_14 ?r14_14
  case w14_14 => kernel_rfl
  case y14_14 => (intro w hC; go_simp; try with_reducible rfl)
  case f14_14 => (go_simp; try with_reducible rfl)
  refine anyC_take (i := 15) (v := ?v15_15) (a' := ?a15_15) rfl (by kernel_rfl) (by kernel_rfl) (by kernel_rfl) (fun _ _ _ h => h) hC2 ?w15_15 ?y15_15 ?f15_15 ?r15_15
  case w15_15 => kernel_rfl
  case y15_15 => (intro w hC; go_simp; try with_reducible rfl)
  case f15_15 => (go_simp; try with_reducible rfl)
  refine anyC_take (i := 16) (v := ?v16_16) (a' := ?a16_16) rfl (by kernel_rfl) (by kernel_rfl) (by kernel_rfl) (fun _ _ _ h => h) hC2 ?w16_16 ?y16_16 ?f16_16 ?r16_16
  case w16_16 => kernel_rfl
  case y16_16 => (intro w hC; go_simp; try with_reducible rfl)
  case f16_16 => (go_simp; try with_reducible rfl)
  refine anyC_done (by kernel_rfl) ?_
  go_wp2
  (try simp only [Exit.inBlock, Exit.then]); refine bodyPost_ret (results_tmp4 rfl _ _ _) rfl ?_
  rw [HE.out, HD.out]
  refine ⟨v, ?_, own_mono hown hC.size, hC2⟩
  rfl
end Go.Proofs.YtgeaedoccdemeaaDoor
