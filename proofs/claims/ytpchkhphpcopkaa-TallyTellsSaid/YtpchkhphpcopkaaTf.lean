/- Which bits more than half say, of sixty-four counts: the program's. -/
import Derived.Test.YtpchkhphpcopkaaTc
import Derived.Laws.BitsAllLaws
namespace Go.Proofs.Ytpchkhphpcopkaa
open Go.RowKit Go.Shelf Km Kx

theorem mask_pos {n : Int} {f : Nat → Nat} {k : Nat} (h : n < 2 * (f k : Int)) : Tm.mask n f (k + 1) = Tm.mask n f k ||| 2 ^ k := if_pos h
theorem mask_neg {n : Int} {f : Nat → Nat} {k : Nat} (h : ¬ n < 2 * (f k : Int)) : Tm.mask n f (k + 1) = Tm.mask n f k := if_neg h
theorem mask_small (n : Int) (f : Nat → Nat) {k : Nat} (h : k ≤ 64) : Tm.mask n f k < 18446744073709551616 :=
  Nat.lt_of_lt_of_le (Tm.mask_lt n f k) (by rw [show (18446744073709551616 : Nat) = 2 ^ 64 from rfl]; exact Nat.pow_le_pow_right (by decide) h)
theorem cvs_oc (f : Nat → Nat) : ((cvs f).all (·.oneCell')) = true := by
  rw [List.all_eq_true]
  intro u hu
  unfold cvs at hu
  obtain ⟨b, _, rfl⟩ := List.mem_map.1 hu
  rfl

/-- one bit more -/
theorem or_bit {m k : Nat} (hm : m < 18446744073709551616) (hk : k < 64) : bits BinOp.or IntKind.u64 (m : Int) (IntKind.u64.wrap (2 ^ k)) = ((m ||| 2 ^ k : Nat) : Int) := by
  have e : ((2 : Int) ^ k) = ((2 ^ k : Nat) : Int) := by simp
  have hp : 2 ^ k < 18446744073709551616 := by
    rw [show (18446744073709551616 : Nat) = 2 ^ 64 from rfl]; exact Nat.pow_lt_pow_right (by decide) hk
  generalize 2 ^ k = q at *
  rw [e]
  have hw : IntKind.u64.wrap (q : Int) = (q : Int) := by rw [IntKind.wrap_u64]; omega
  rw [hw, u64_or _ _ (by omega) (by omega) (by omega) (by omega)]
  simp

set_option maxRecDepth 100000 in
set_option maxHeartbeats 1000000 in
theorem majority_any (f : Nat → Nat) (n : Int) (w : World) (hn : 1 ≤ n ∧ n ≤ 9223372036854775807) (hf : ∀ b, f b ≤ 1000000) :
    Calls Try.prog 22 #[.agg (cvs f).toArray, .int .i64 n] w fun e w' => e = .returned (.int .u64 (Tm.mask n f 64 : Int)) ∧ Below w.heap.size w w' := by
  have HB := Lib.hid (Bxs.start w)
  obtain ⟨n1, n2⟩ := hn
  go_enter Try.func22, Try.ntmps22
  go_wp2_with (first | ((with_reducible refine Kx.absorb HB ?_); clear HB; intro w_ HB) | ((with_reducible refine Kx.box_gate (d := some 2) ?_); first | (refine Kx.wpList_boxa_x HB rfl _ _ rfl _ rfl ?_; clear HB; intro b2 w_ HB; refine Kx.framed ?_ (by simp only [Act.put, List.setIfInBounds_toArray, List.set_cons_succ, List.set_cons_zero] <;> rfl)) | (refine Kx.wpList_boxt_x HB rfl _ _ rfl _ rfl rfl ?_; clear HB; intro b2 w_ HB; refine Kx.framed ?_ (by simp only [Act.put, List.setIfInBounds_toArray, List.set_cons_succ, List.set_cons_zero] <;> rfl)) | (refine Kx.wpList_box1_x HB rfl _ _ rfl _ rfl rfl ?_; clear HB; intro b2 w_ HB; refine Kx.framed ?_ (by simp only [Act.put, List.setIfInBounds_toArray, List.set_cons_succ, List.set_cons_zero] <;> rfl))) | ((with_reducible refine Kx.alloc_gate (d := some 2) ?_); first | (refine Kx.wpList_alloca_x HB rfl _ rfl _ (Try.zeroValue44 _) ?_; clear HB; intro b2 w_ HB; refine Kx.framed ?_ (by simp only [Act.put, List.setIfInBounds_toArray, List.set_cons_succ, List.set_cons_zero] <;> rfl)) | (refine Kx.wpList_alloc1_x HB rfl _ rfl _ (Try.zeroValue3 _) rfl ?_; clear HB; intro b2 w_ HB; refine Kx.framed ?_ (by simp only [Act.put, List.setIfInBounds_toArray, List.set_cons_succ, List.set_cons_zero] <;> rfl))) | ((with_reducible refine Kx.box_gate ?_); first | (refine Kx.wpList_boxa_x HB rfl _ _ rfl _ rfl ?_; clear HB; intro b_ w_ HB; refine Kx.framed ?_ (by simp only [Act.put, List.setIfInBounds_toArray, List.set_cons_succ, List.set_cons_zero] <;> rfl)) | (refine Kx.wpList_boxt_x HB rfl _ _ rfl _ rfl rfl ?_; clear HB; intro b_ w_ HB; refine Kx.framed ?_ (by simp only [Act.put, List.setIfInBounds_toArray, List.set_cons_succ, List.set_cons_zero] <;> rfl)) | (refine Kx.wpList_box1_x HB rfl _ _ rfl _ rfl rfl ?_; clear HB; intro b_ w_ HB; refine Kx.framed ?_ (by simp only [Act.put, List.setIfInBounds_toArray, List.set_cons_succ, List.set_cons_zero] <;> rfl))) | ((with_reducible refine Kx.alloc_gate ?_); first | (refine Kx.wpList_alloca_x HB rfl _ rfl _ (Try.zeroValue44 _) ?_; clear HB; intro b_ w_ HB; refine Kx.framed ?_ (by simp only [Act.put, List.setIfInBounds_toArray, List.set_cons_succ, List.set_cons_zero] <;> rfl)) | (refine Kx.wpList_alloc1_x HB rfl _ rfl _ (Try.zeroValue3 _) rfl ?_; clear HB; intro b_ w_ HB; refine Kx.framed ?_ (by simp only [Act.put, List.setIfInBounds_toArray, List.set_cons_succ, List.set_cons_zero] <;> rfl))) | ((with_reducible refine Kx.loads_gate ?_); first | (refine Kx.wpList_load1_x HB rfl _ _ rfl _ rfl _ (Try.isAgg3 _) _ rfl (Kx.framed ?_ (by simp only [Act.put, List.setIfInBounds_toArray, List.set_cons_succ, List.set_cons_zero] <;> rfl))) | (refine Kx.wpList_load_x HB rfl _ _ rfl _ rfl _ _ (Try.isAgg44 _) (Try.sizeOf44 _) _ (by first | exact Kx.whole (by rfl) | (simp <;> rfl)) (by rfl) (Kx.framed ?_ (by simp only [Act.put, List.setIfInBounds_toArray, List.set_cons_succ, List.set_cons_zero] <;> rfl))) | (refine Kx.wpList_old_x HB rfl _ _ rfl _ rfl (Try.isAgg3 _) _ HC.out (Kx.framed ?_ (by simp only [Act.put, List.setIfInBounds_toArray, List.set_cons_succ, List.set_cons_zero] <;> rfl)))) | ((with_reducible refine Kx.loadg_gate ?_); first | (refine Kx.wpList_loadg_x HB _ _ rfl _ rfl _ (Try.isAgg3 _) _ rfl rfl (Kx.framed ?_ (by simp only [Act.put, List.setIfInBounds_toArray, List.set_cons_succ, List.set_cons_zero] <;> rfl))) | (refine Kx.wpList_loadga_x HB _ _ rfl _ rfl _ _ (Try.isAgg44 _) (Try.sizeOf44 _) _ (by first | exact Kx.whole (by rfl) | (simp <;> rfl)) (by rfl) rfl (Kx.framed ?_ (by simp only [Act.put, List.setIfInBounds_toArray, List.set_cons_succ, List.set_cons_zero] <;> rfl))) | (refine Kx.wpList_oldg_x HB _ _ rfl _ rfl (Try.isAgg3 _) _ HC.out rfl (Kx.framed ?_ (by simp only [Act.put, List.setIfInBounds_toArray, List.set_cons_succ, List.set_cons_zero] <;> rfl)))) | ((with_reducible refine Kx.store_gate ?_); first | (refine Kx.wpList_storewa_x HB rfl rfl _ _ _ rfl _ rfl _ rfl _ (by rfl) (by simp <;> rfl) (by rfl) ?_; clear HB; intro w_ HB) | (refine Kx.wpList_storea_x HB rfl rfl _ _ _ rfl _ rfl _ rfl _ _ (by simp [Kx.splice] <;> rfl) (by simp) (by simp <;> rfl) (by rfl) ?_; clear HB; intro w_ HB) | (refine Kx.wpList_storec_x HB rfl rfl _ _ _ rfl _ rfl rfl _ _ (by simp <;> rfl) (by simp) (by simp <;> rfl) ?_; clear HB; intro w_ HB) | (refine Kx.wpList_storet_x HB rfl rfl _ _ _ rfl _ rfl _ rfl rfl _ _ (by simp <;> rfl) (by simp) (by simp <;> rfl) ?_; clear HB; intro w_ HB) | (refine Kx.wpList_store1_x HB rfl rfl _ _ _ rfl _ rfl _ rfl rfl _ _ (by simp <;> rfl) (by simp) (by simp <;> rfl) ?_; clear HB; intro w_ HB)))
  go_loopg [5, 7] 64 (fun gh ux ix wr => ∃ k : Nat, gh + k = 64 ∧ ux = .int .u64 (Tm.mask n f k : Int) ∧ ix = .int .i64 (k : Int) ∧ Hid (Bxs w wr [(b2, cvs f)]))
  case atStart => exact ⟨0, by omega, rfl, rfl, HB⟩
  case round =>
    clear HB
    obtain ⟨k, hk, rfl, rfl, HB⟩ := hrel
    by_cases hlt : k < 64
    · have d3 : (k : Int) < 64 := by omega
      have hk0 : (0 : Int) ≤ (k : Int) := by omega
      have HG : Hid ((cvs f)[k]? = some (.int .i64 (f k : Int))) := Lib.hid (cvs_get _ hlt)
      have hfk := hf k
      have hw2 : IntKind.i64.wrap (n - (f k : Int)) = n - (f k : Int) := by rw [IntKind.wrap_i64]; omega
      have hm := mask_small n f (k := k) (by omega)
      have hm2 := mask_small n f (k := k + 1) (by omega)
      by_cases hgt : n < 2 * (f k : Int)
      · have hd : decide (n - (f k : Int) < (f k : Int)) = true := by simp; omega
        have e := mask_pos (n := n) (f := f) (k := k) hgt
        have HE := Lib.hid e
        have HO := Lib.hid (or_bit hm hlt)
        clear hgt hfk e
        go_wp2_with fail
        refine Kx.region_x HB (fun i => false) (by kernel_rfl) ?_
        refine anyW_take (i := 0) (v := ?v0_1) (a' := ?a0_1) (by first | exact Kx.bears_x | assumption) rfl (by kernel_rfl) (by kernel_rfl) (by kernel_rfl) (fun _ _ _ h => h) (by kernel_rfl) ?w0_1 ?y0_1 ?f0_1 ?r0_1
        case w0_1 => kernel_rfl
        case y0_1 => (intro w hC; go_simp; try with_reducible rfl)
        case f0_1 => (go_simp; try with_reducible rfl)
        refine anyW_take (i := 1) (v := ?v1_2) (a' := ?a1_2) (by first | exact Kx.bears_x | assumption) rfl (by kernel_rfl) (by kernel_rfl) (by kernel_rfl) (fun _ _ _ h => h) (by kernel_rfl) ?w1_2 ?y1_2 ?f1_2 ?r1_2
        case w1_2 => kernel_rfl
        case y1_2 => (intro w hC; go_simp; try with_reducible rfl)
        case f1_2 => (go_simp; try with_reducible rfl)
        refine anyW_take (i := 2) (v := ?v2_3) (a' := ?a2_3) (by first | exact Kx.bears_x | assumption) rfl (by kernel_rfl) (by kernel_rfl) (by kernel_rfl) (fun _ _ _ h => h) (by kernel_rfl) ?w2_3 ?y2_3 ?f2_3 ?r2_3
        case w2_3 => kernel_rfl
        case y2_3 => (intro W hW; first | (refine Eq.trans (Kx.tells_load1_x (v := .int .i64 (f k : Int)) hW b2 k rfl (cvs f) inferInstance (Try.isAgg3 _) HG.out) ?_; with_reducible rfl))
        case f2_3 => (go_simp; try with_reducible rfl)
        refine anyW_take (i := 3) (v := ?v3_4) (a' := ?a3_4) (by first | exact Kx.bears_x | assumption) rfl (by kernel_rfl) (by kernel_rfl) (by kernel_rfl) (fun _ _ _ h => h) (by kernel_rfl) ?w3_4 ?y3_4 ?f3_4 ?r3_4
        case w3_4 => kernel_rfl
        case y3_4 => (intro w hC; go_simp; try with_reducible rfl)
        case f3_4 => (go_simp; try with_reducible rfl)
        refine anyW_take (i := 4) (v := ?v4_5) (a' := ?a4_5) (by first | exact Kx.bears_x | assumption) rfl (by kernel_rfl) (by kernel_rfl) (by kernel_rfl) (fun _ _ _ h => h) (by kernel_rfl) ?w4_5 ?y4_5 ?f4_5 ?r4_5
        case w4_5 => kernel_rfl
        case y4_5 => (intro w hC; go_simp; try with_reducible rfl)
        case f4_5 => (go_simp; try with_reducible rfl)
        refine anyW_take (i := 5) (v := ?v5_6) (a' := ?a5_6) (by first | exact Kx.bears_x | assumption) rfl (by kernel_rfl) (by kernel_rfl) (by kernel_rfl) (fun _ _ _ h => h) (by kernel_rfl) ?w5_6 ?y5_6 ?f5_6 ?r5_6
        case w5_6 => kernel_rfl
        case y5_6 => (intro w hC; go_simp; try with_reducible rfl)
        case f5_6 => (go_simp; try with_reducible rfl)
        refine anyW_take (i := 6) (v := ?v6_7) (a' := ?a6_7) (by first | exact Kx.bears_x | assumption) rfl (by kernel_rfl) (by kernel_rfl) (by kernel_rfl) (fun _ _ _ h => h) (by kernel_rfl) ?w6_7 ?y6_7 ?f6_7 ?r6_7
        case w6_7 => kernel_rfl
        case y6_7 => (intro W hW; first | (refine Eq.trans (Kx.tells_load1_x (v := .int .i64 (f k : Int)) hW b2 k rfl (cvs f) inferInstance (Try.isAgg3 _) HG.out) ?_; with_reducible rfl))
        case f6_7 => (go_simp; try with_reducible rfl)
        refine anyW_take (i := 7) (v := ?v7_8) (a' := ?a7_8) (by first | exact Kx.bears_x | assumption) rfl (by kernel_rfl) (by kernel_rfl) (by kernel_rfl) (fun _ _ _ h => h) (by kernel_rfl) ?w7_8 ?y7_8 ?f7_8 ?r7_8
        case w7_8 => kernel_rfl
        case y7_8 => (intro w hC; go_simp; try with_reducible rfl)
        case f7_8 => (go_simp; try with_reducible rfl)
        refine anyW_take (i := 8) (v := ?v8_9) (a' := ?a8_9) (by first | exact Kx.bears_x | assumption) rfl (by kernel_rfl) (by kernel_rfl) (by kernel_rfl) (fun _ _ _ h => h) (by kernel_rfl) ?w8_9 ?y8_9 ?f8_9 ?r8_9
        case w8_9 => kernel_rfl
        case y8_9 => (intro w hC; go_simp; try with_reducible rfl)
        case f8_9 => (go_simp; try with_reducible rfl)
        refine anyW_done (by kernel_rfl) ?_
        clear HB
        intro w_ HB_
        have HB := Lib.hid HB_
        clear HB_
        go_wp2_with fail
        go_roundg (gk - 1)
        case measure => omega
        case rel => exact ⟨k + 1, by omega, by rw [HE.out, HO.out], by go_num, HB⟩
      · have hd : decide (n - (f k : Int) < (f k : Int)) = false := by simp; omega
        have e := mask_neg (n := n) (f := f) (k := k) hgt
        have HE := Lib.hid e
        clear hgt hfk e
        go_wp2_with fail
        refine Kx.region_x HB (fun i => false) (by kernel_rfl) ?_
        refine anyW_take (i := 0) (v := ?v0_10) (a' := ?a0_10) (by first | exact Kx.bears_x | assumption) rfl (by kernel_rfl) (by kernel_rfl) (by kernel_rfl) (fun _ _ _ h => h) (by kernel_rfl) ?w0_10 ?y0_10 ?f0_10 ?r0_10
        case w0_10 => kernel_rfl
        case y0_10 => (intro w hC; go_simp; try with_reducible rfl)
        case f0_10 => (go_simp; try with_reducible rfl)
        refine anyW_take (i := 1) (v := ?v1_11) (a' := ?a1_11) (by first | exact Kx.bears_x | assumption) rfl (by kernel_rfl) (by kernel_rfl) (by kernel_rfl) (fun _ _ _ h => h) (by kernel_rfl) ?w1_11 ?y1_11 ?f1_11 ?r1_11
        case w1_11 => kernel_rfl
        case y1_11 => (intro w hC; go_simp; try with_reducible rfl)
        case f1_11 => (go_simp; try with_reducible rfl)
        refine anyW_take (i := 2) (v := ?v2_12) (a' := ?a2_12) (by first | exact Kx.bears_x | assumption) rfl (by kernel_rfl) (by kernel_rfl) (by kernel_rfl) (fun _ _ _ h => h) (by kernel_rfl) ?w2_12 ?y2_12 ?f2_12 ?r2_12
        case w2_12 => kernel_rfl
        case y2_12 => (intro W hW; first | (refine Eq.trans (Kx.tells_load1_x (v := .int .i64 (f k : Int)) hW b2 k rfl (cvs f) inferInstance (Try.isAgg3 _) HG.out) ?_; with_reducible rfl))
        case f2_12 => (go_simp; try with_reducible rfl)
        refine anyW_take (i := 3) (v := ?v3_13) (a' := ?a3_13) (by first | exact Kx.bears_x | assumption) rfl (by kernel_rfl) (by kernel_rfl) (by kernel_rfl) (fun _ _ _ h => h) (by kernel_rfl) ?w3_13 ?y3_13 ?f3_13 ?r3_13
        case w3_13 => kernel_rfl
        case y3_13 => (intro w hC; go_simp; try with_reducible rfl)
        case f3_13 => (go_simp; try with_reducible rfl)
        refine anyW_take (i := 4) (v := ?v4_14) (a' := ?a4_14) (by first | exact Kx.bears_x | assumption) rfl (by kernel_rfl) (by kernel_rfl) (by kernel_rfl) (fun _ _ _ h => h) (by kernel_rfl) ?w4_14 ?y4_14 ?f4_14 ?r4_14
        case w4_14 => kernel_rfl
        case y4_14 => (intro w hC; go_simp; try with_reducible rfl)
        case f4_14 => (go_simp; try with_reducible rfl)
        refine anyW_take (i := 5) (v := ?v5_15) (a' := ?a5_15) (by first | exact Kx.bears_x | assumption) rfl (by kernel_rfl) (by kernel_rfl) (by kernel_rfl) (fun _ _ _ h => h) (by kernel_rfl) ?w5_15 ?y5_15 ?f5_15 ?r5_15
        case w5_15 => kernel_rfl
        case y5_15 => (intro w hC; go_simp; try with_reducible rfl)
        case f5_15 => (go_simp; try with_reducible rfl)
        refine anyW_take (i := 6) (v := ?v6_16) (a' := ?a6_16) (by first | exact Kx.bears_x | assumption) rfl (by kernel_rfl) (by kernel_rfl) (by kernel_rfl) (fun _ _ _ h => h) (by kernel_rfl) ?w6_16 ?y6_16 ?f6_16 ?r6_16
        case w6_16 => kernel_rfl
        case y6_16 => (intro W hW; first | (refine Eq.trans (Kx.tells_load1_x (v := .int .i64 (f k : Int)) hW b2 k rfl (cvs f) inferInstance (Try.isAgg3 _) HG.out) ?_; with_reducible rfl))
        case f6_16 => (go_simp; try with_reducible rfl)
        refine anyW_take (i := 7) (v := ?v7_17) (a' := ?a7_17) (by first | exact Kx.bears_x | assumption) rfl (by kernel_rfl) (by kernel_rfl) (by kernel_rfl) (fun _ _ _ h => h) (by kernel_rfl) ?w7_17 ?y7_17 ?f7_17 ?r7_17
        case w7_17 => kernel_rfl
        case y7_17 => (intro w hC; go_simp; try with_reducible rfl)
        case f7_17 => (go_simp; try with_reducible rfl)
        refine anyW_take (i := 8) (v := ?v8_18) (a' := ?a8_18) (by first | exact Kx.bears_x | assumption) rfl (by kernel_rfl) (by kernel_rfl) (by kernel_rfl) (fun _ _ _ h => h) (by kernel_rfl) ?w8_18 ?y8_18 ?f8_18 ?r8_18
        case w8_18 => kernel_rfl
        case y8_18 => (intro w hC; go_simp; try with_reducible rfl)
        case f8_18 => (go_simp; try with_reducible rfl)
        refine anyW_done (by kernel_rfl) ?_
        clear HB
        intro w_ HB_
        have HB := Lib.hid HB_
        clear HB_
        go_wp2_with fail
        go_roundg (gk - 1)
        case measure => omega
        case rel => exact ⟨k + 1, by omega, by rw [HE.out], by go_num, HB⟩
    · obtain rfl : k = 64 := by omega
      go_wp2_with fail
      go_ret
      exact ⟨rfl, HB.out.below⟩
end Go.Proofs.Ytpchkhphpcopkaa
