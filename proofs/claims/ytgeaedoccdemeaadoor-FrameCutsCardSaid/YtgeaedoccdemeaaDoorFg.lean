/- The size of the frame that bytes begin with: the program's. -/
import Derived.Test.YtgeaedoccdemeaaDoorFp
import Derived.Test.YtgeaedoccdemeaaDoorKitC
namespace Go.Proofs.YtgeaedoccdemeaaDoor
open Go.RowKit Go.Shelf

theorem getD_of {xs : List Int} {i : Nat} {x : Int} (h : xs[i]? = some x) : xs.getD i 0 = x := by rw [List.getD_eq_getElem?_getD, h]; rfl
theorem or_len {x y : Int} (hx : 0 ≤ x ∧ x ≤ 255) (hy : 0 ≤ y ∧ y ≤ 255) : bits .or .i64 (x * 256) y = (((x * 256 + y).toNat : Nat) : Int) := by
  obtain ⟨a, rfl⟩ := Int.eq_ofNat_of_zero_le hx.1
  obtain ⟨b, rfl⟩ := Int.eq_ofNat_of_zero_le hy.1
  have e : ((a : Int) * 256) = ((a * 256 : Nat) : Int) := by omega
  rw [e]
  show IntKind.i64.wrap ((BitVec.ofInt 64 ((a * 256 : Nat) : Int) ||| BitVec.ofInt 64 (b : Int)).toNat : Int) = _
  have hj : (a * 256) ||| b = a * 256 + b := nat_join 8 (a * 256) b (by omega) (by omega)
  rw [BitVec.toNat_or, ofInt_u64 _ (by omega), ofInt_u64 _ (by omega), hj, IntKind.wrap_i64]
  omega

set_option maxRecDepth 100000 in
set_option maxHeartbeats 4000000 in
theorem measure_any (A : Option Addr) (n cap B : Nat) (xs : List Int) (w : World) (hx : Rd w B A (u8s xs)) (hn : xs.length = n) (hnc : n ≤ cap) (hcap : cap ≤ maxLen) (hB : B ≤ w.heap.size) (hb : Fm.By xs) (ht : Tab w) :
    Calls Tryd.prog 20 #[.slice A n cap] w fun e w' => e = .returned (.tuple #[.int .i64 (Fm.meas xs).1, .int .i64 (Fm.meas xs).2]) ∧ Below w.heap.size w w' := by
  by_cases h0 : n = 0
  · have HM := Lib.hid (Fm.meas_0 (l := xs) (by omega))
    have k0 : ((n : Int) == 0) = true := by rw [beq_iff_eq]; omega
    clear hx hb ht
    go_enter Tryd.func20, Tryd.ntmps20
    go_wp2
    go_ret2
    rw [HM.out]
    exact ⟨rfl, Below.refl _ _⟩
  have k0 : ((n : Int) == 0) = false := by rw [beq_eq_false_iff_ne]; omega
  obtain ⟨x0, hx0⟩ : ∃ x, xs[0]? = some x := ⟨xs[0], List.getElem?_eq_getElem (by omega)⟩
  obtain ⟨ad, rfl, _, hc0⟩ := hx.getU hx0
  rw [show ad.add 0 = ad from rfl] at hc0
  have hd0 := getD_of hx0
  have hcap' := hcap
  unfold maxLen at hcap'
  by_cases h1 : x0 = 247
  case neg =>
    have HM := Lib.hid (Fm.meas_1 (l := xs) (by omega) (by rw [hd0]; exact h1))
    have k1 : (x0 != 247) = true := by rw [bne_iff_ne]; exact h1
    clear hx hb ht hx0 hd0
    go_enter Tryd.func20, Tryd.ntmps20
    go_wp2
    go_ret2
    rw [HM.out]
    exact ⟨rfl, Below.refl _ _⟩
  subst h1
  by_cases h2 : n < 8
  · have HM := Lib.hid (Fm.meas_2 (l := xs) (by omega) hd0 (by omega))
    clear hx hb ht hx0 hd0
    go_enter Tryd.func20, Tryd.ntmps20
    go_wp2
    go_ret2
    rw [HM.out]
    exact ⟨rfl, Below.refl _ _⟩
  obtain ⟨x2, hx2⟩ : ∃ x, xs[2]? = some x := ⟨xs[2], List.getElem?_eq_getElem (by omega)⟩
  obtain ⟨x3, hx3⟩ : ∃ x, xs[3]? = some x := ⟨xs[3], List.getElem?_eq_getElem (by omega)⟩
  obtain ⟨_, e2, _, hc2⟩ := hx.getU hx2
  cases e2
  obtain ⟨_, e3, _, hc3⟩ := hx.getU hx3
  cases e3
  have b2 := hb _ (List.mem_of_getElem? hx2)
  have b3 := hb _ (List.mem_of_getElem? hx3)
  have hor := or_len b2 b3
  have hln : Fm.ln xs = (x2 * 256 + x3).toNat := by unfold Fm.ln; rw [getD_of hx2, getD_of hx3]
  have hlb : Fm.ln xs ≤ 65535 := by omega
  rw [← hln] at hor
  obtain ⟨m, hm⟩ : ∃ m, m = Fm.ln xs := ⟨_, rfl⟩
  rw [← hm] at hor hlb
  have i2 : (2 : Int) < (n : Int) := by omega
  have i3 : (3 : Int) < (n : Int) := by omega
  have k2 : decide ((n : Int) < 8) = false := by simp; omega
  rw [show ad.add 2 = ⟨ad.block, ad.off + 2, none⟩ from rfl] at hc2
  rw [show ad.add 3 = ⟨ad.block, ad.off + 3, none⟩ from rfl] at hc3
  clear hln hx0 hx2 hx3
  by_cases h3 : 8192 < m
  · have HM := Lib.hid (Fm.meas_3 (l := xs) (by omega) hd0 (by omega))
    clear hx hb ht hd0 hm
    go_enter Tryd.func20, Tryd.ntmps20
    go_wp2
    go_quiet (fail)
    go_wp2
    go_ret2
    rw [HM.out]
    exact ⟨rfl, below_drawn (Below.refl _ _) nq⟩
  by_cases h4 : n < m + 8
  · have HM := Lib.hid (Fm.meas_4 (l := xs) (by omega) hd0 (by omega) (by omega))
    clear hx hb ht hd0 hm
    go_enter Tryd.func20, Tryd.ntmps20
    go_wp2
    go_quiet (fail)
    go_wp2
    go_ret2
    rw [HM.out]
    exact ⟨rfl, below_drawn (Below.refl _ _) nq⟩
  have HM := Lib.hid hm
  have hw4 : IntKind.i64.wrap (4 + (m : Int)) = 4 + (m : Int) := IntWalk.i64_in _ (by omega)
  have hw8 : IntKind.i64.wrap (4 + (m : Int) + 4) = 4 + (m : Int) + 4 := IntWalk.i64_in _ (by omega)
  obtain ⟨i0, hi, hz0, hz1, hz2⟩ := info_parts info_u8
  have hsA : ∀ W, (Instr.slice 22 (.slice (some ad) n cap) none (some (.int .i64 (4 + (m : Int)))) none).run Tryd.prog W = .ok (.slice (cutA (some ad) 0 cap) (m + 4) cap) W := fun W => by
    have h := run_cut_h (P := Tryd.prog) Tryd.underlying22 (size_of_info hi hz1) (some ad) n cap (m + 4) (by omega) W
    rwa [show (((m + 4 : Nat)) : Int) = 4 + (m : Int) by omega] at h
  have hsB : ∀ W, (Instr.slice 22 (.slice (some ad) n cap) (some (.int .i64 (4 + (m : Int)))) (some (.int .i64 (4 + (m : Int) + 4))) none).run Tryd.prog W = .ok (.slice (cutA (some ad) (m + 4) cap) 4 (cap - (m + 4))) W := fun W => by
    have h := run_cut_lh (P := Tryd.prog) Tryd.underlying22 (size_of_info hi hz1) (some ad) n cap (m + 4) (m + 8) (by omega) (by omega) W
    rwa [show (((m + 4 : Nat)) : Int) = 4 + (m : Int) by omega, show (((m + 8 : Nat)) : Int) = 4 + (m : Int) + 4 by omega, show m + 8 - (m + 4) = 4 by omega] at h
  have k3 : decide (8192 < (m : Int)) = false := by simp; omega
  have k4 : decide ((n : Int) < 4 + (m : Int) + 4) = false := by simp; omega
  have HRA := Lib.hid (rd_cut0 (n := m + 4) hx (cap := cap) (by omega))
  have HRB := Lib.hid ((hx.dropU (k := m + 4) (cap := cap) (by omega)).takeU 4)
  have HT := Lib.hid ht
  have HB := Lib.hid hb
  have HD := Lib.hid hd0
  clear hm hi hz0 hz1 hz2 hx ht hb hd0
  go_enter Tryd.func20, Tryd.ntmps20
  go_wp2
  go_quiet (fail)
  go_wp2
  refine region_C (fun w' => Below w.heap.size w w') (by kernel_rfl) ?_
  obtain ⟨w1, hw1⟩ : ∃ w1, w1 = (w.drewN nq).drew := ⟨_, rfl⟩
  have hC : Below w.heap.size w w1 := by rw [hw1]; exact below_drawn (below_drawn (Below.refl w.heap.size w) nq) 1
  rw [← hw1]
  clear hw1
  refine anyC_take (i := 0) (v := ?v0_17) (a' := ?a0_17) rfl (by kernel_rfl) (by kernel_rfl) (by kernel_rfl) (fun _ _ _ h => h) hC ?w0_17 ?y0_17 ?f0_17 ?r0_17
  case w0_17 => kernel_rfl
  case y0_17 => (intro w hC; go_simp; try with_reducible rfl)
  case f0_17 => (go_simp; try with_reducible rfl)
  refine anyC_take (i := 1) (v := ?v1_18) (a' := ?a1_18) rfl (by kernel_rfl) (by kernel_rfl) (by kernel_rfl) (fun _ _ _ h => h) hC ?w1_18 ?y1_18 ?f1_18 ?r1_18
  case w1_18 => kernel_rfl
  case y1_18 => (intro w hC; go_simp; try with_reducible rfl)
  case f1_18 => (go_simp; try with_reducible rfl)
  refine anyC_take (i := 2) (v := ?v2_19) (a' := ?a2_19) rfl (by kernel_rfl) (by kernel_rfl) (by kernel_rfl) (fun _ _ _ h => h) hC ?w2_19 ?y2_19 ?f2_19 ?r2_19
  case w2_19 => kernel_rfl
  case y2_19 => (intro w hC; go_simp; try with_reducible rfl)
  case f2_19 => (go_simp; try with_reducible rfl)
  refine anyC_take (i := 3) (v := ?v3_20) (a' := ?a3_20) rfl (by kernel_rfl) (by kernel_rfl) (by kernel_rfl) (fun _ _ _ h => h) hC ?w3_20 ?y3_20 ?f3_20 ?r3_20
  case w3_20 => kernel_rfl
  case y3_20 => (intro w hC; go_simp; try with_reducible rfl)
  case f3_20 => (go_simp; try with_reducible rfl)
  refine anyC_take (i := 5) (v := ?v5_21) (a' := ?a5_21) rfl (by kernel_rfl) (by kernel_rfl) (by kernel_rfl) (fun _ _ _ h => h) hC ?w5_21 ?y5_21 ?f5_21 ?r5_21
  case w5_21 => kernel_rfl
  case y5_21 => (intro w hC; go_simp; try with_reducible rfl)
  case f5_21 => (go_simp; try with_reducible rfl)
  refine anyC_take (i := 6) (v := ?v6_22) (a' := ?a6_22) rfl (by kernel_rfl) (by kernel_rfl) (by kernel_rfl) (fun _ _ _ h => h) hC ?w6_22 ?y6_22 ?f6_22 ?r6_22
  case w6_22 => kernel_rfl
  case y6_22 => (intro w hC; go_simp; try with_reducible rfl)
  case f6_22 => (go_simp; try with_reducible rfl)
  refine anyC_take (i := 7) (v := ?v7_23) (a' := ?a7_23) rfl (by kernel_rfl) (by kernel_rfl) (by kernel_rfl) (fun _ _ _ h => h) hC ?w7_23 ?y7_23 ?f7_23 ?r7_23
  case w7_23 => kernel_rfl
  case y7_23 => (intro w hC; go_simp; try with_reducible rfl)
  case f7_23 => (go_simp; try with_reducible rfl)
  refine anyC_take (i := 8) (v := ?v8_24) (a' := ?a8_24) rfl (by kernel_rfl) (by kernel_rfl) (by kernel_rfl) (fun _ _ _ h => h) hC ?w8_24 ?y8_24 ?f8_24 ?r8_24
  case w8_24 => kernel_rfl
  case y8_24 => (intro w hC; go_simp; try with_reducible rfl)
  case f8_24 => (go_simp; try with_reducible rfl)
  refine anyC_take (i := 9) (v := ?v9_25) (a' := ?a9_25) rfl (by kernel_rfl) (by kernel_rfl) (by kernel_rfl) (fun _ _ _ h => h) hC ?w9_25 ?y9_25 ?f9_25 ?r9_25
  case w9_25 => kernel_rfl
  case y9_25 => (intro w hC; go_simp; try with_reducible rfl)
  case f9_25 => (go_simp; try with_reducible rfl)
  refine anyC_one (i := 4) rfl (by kernel_rfl) (by kernel_rfl) (fun K hK => ?_)
  go_simp
  refine (sumOf_any _ (m + 4) cap B (xs.take (m + 4)) _ (by exact HRA.out.below (hC.mono hB)) (by rw [List.length_take]; omega) (by omega) (by omega) hcap (HB.out.take _) (HT.out.below hC (Nat.le_refl _))).mono ?_
  rintro e w' ⟨rfl, rfl⟩
  go_wp2_with fail
  have hC2 := hC.alloc hC.size (.cells (u8s (Fm.sum (xs.take (m + 4)))).toArray 5)
  have hE := Equal_any (some ⟨w1.heap.size, 0, none⟩) 4 4 (w1.heap.size + 1) (Fm.sum (xs.take (m + 4))) (cutA (some ad) (m + 4) cap) 4 (cap - (m + 4)) B ((xs.drop (m + 4)).take 4) (w1.alloc (.cells (u8s (Fm.sum (xs.take (m + 4)))).toArray 5))
    (by exact Rd.new w1 (w1.heap.size + 1) (u8s (Fm.sum (xs.take (m + 4)))) 5 (0, 0) (by omega)) rfl (HRB.out.below (hC2.mono hB)) (by rw [List.length_take, List.length_drop]; omega) (Fm.be4_by _) ((HB.out.drop _).take _)
  clear hC
  refine ⟨hC2, ?_⟩
  generalize w1.alloc (.cells (u8s (Fm.sum (xs.take (m + 4)))).toArray 5) = w2 at hC2 hE ⊢
  refine anyC_one (i := 10) rfl (by kernel_rfl) (by kernel_rfl) (fun K hK => ?_)
  go_simp
  go_wp2_with (go_at_call 25; fail)
  refine hE.mono ?_
  rintro e w' ⟨rfl, rfl⟩
  go_wp2_with fail
  refine ⟨hC2, ?_⟩
  refine anyC_take (i := 11) (v := ?v11_26) (a' := ?a11_26) rfl (by kernel_rfl) (by kernel_rfl) (by kernel_rfl) (fun _ _ _ h => h) hC2 ?w11_26 ?y11_26 ?f11_26 ?r11_26
  case w11_26 => kernel_rfl
  case y11_26 => (intro w hC; go_simp; try with_reducible rfl)
  case f11_26 => (go_simp; try with_reducible rfl)
  refine anyC_take (i := 12) (v := ?v12_27) (a' := ?a12_27) rfl (by kernel_rfl) (by kernel_rfl) (by kernel_rfl) (fun _ _ _ h => h) hC2 ?w12_27 ?y12_27 ?f12_27 ?r12_27
  case w12_27 => kernel_rfl
  case y12_27 => (intro w hC; go_simp; try with_reducible rfl)
  case f12_27 => (go_simp; try with_reducible rfl)
  refine anyC_done (by kernel_rfl) ?_
  clear hE
  by_cases h5 : Fm.sum (xs.take (m + 4)) = (xs.drop (m + 4)).take 4
  · have HF : Hid (Fm.meas xs = (4 + (m : Int) + 4, 0)) := by
      show _ = _
      rw [HM.out] at h5
      rw [Fm.meas_6 HD.out (by rw [← HM.out]; omega) (by rw [← HM.out]; omega) h5, ← HM.out]
      congr 1
      omega
    have hd : decide (Fm.sum (xs.take (m + 4)) = (xs.drop (m + 4)).take 4) = true := by simpa using h5
    rw [hd]
    clear hd h5
    go_wp2
    go_ret2
    rw [HF.out]
    exact ⟨rfl, hC2⟩
  · have HF : Hid (Fm.meas xs = (0, 33)) := by
      show _ = _
      rw [HM.out] at h5
      exact Fm.meas_5 HD.out (by rw [← HM.out]; omega) (by rw [← HM.out]; omega) h5
    have hd : decide (Fm.sum (xs.take (m + 4)) = (xs.drop (m + 4)).take 4) = false := by simpa using h5
    rw [hd]
    clear hd h5
    go_wp2
    go_ret2
    rw [HF.out]
    exact ⟨rfl, hC2⟩
end Go.Proofs.YtgeaedoccdemeaaDoor
