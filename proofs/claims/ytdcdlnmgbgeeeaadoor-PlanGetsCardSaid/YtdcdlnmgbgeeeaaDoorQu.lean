/- A plan read: the document's. -/
import Derived.Test.YtdcdlnmgbgeeeaaDoorPn
import Derived.Test.YtdcdlnmgbgeeeaaDoorQs
import Derived.Test.YtdcdlnmgbgeeeaaDoorKitE
namespace Go.Proofs.YtdcdlnmgbgeeeaaDoor
open Go.RowKit Go.Shelf

theorem info_int : (Tryd.prog.info? 3).map (fun i => (i.zero, i.size, i.bytes)) = some (some (.int .i64 0), 1, 8) := by kernel_rfl

theorem Bx.setPen {w : World} {b : Nat} {x : Pm.Pl} {A : Option Addr} {n c : Nat} {A' : Option Addr} {n' c' : Nat} (h : Bx w b x A n c A' n' c') (A2 : Option Addr) (n2 c2 : Nat) :
    Bx (w.setCell ⟨b, 10, none⟩ (.slice A2 n2 c2)) b x A2 n2 c2 A' n' c' := fun j v hv => by
  by_cases e : j = 10
  · subst e
    cases hv
    rw [Nat.zero_add, World.cell?_setCell_same _ _ _ h.pen]
  · rw [World.cell?_setCell_other _ _ _ _ (fun q => e (by injection q with _ q; omega))]
    refine h j v ?_
    match j, hv with
    | 0, hv => exact hv
    | 1, hv => exact hv
    | 2, hv => exact hv
    | 3, hv => exact hv
    | 4, hv => exact hv
    | 5, hv => exact hv
    | 6, hv => exact hv
    | 7, hv => exact hv
    | 8, hv => exact hv
    | 9, hv => exact hv
    | 10, _ => exact absurd rfl e
    | 11, hv => exact hv
    | j + 12, hv => exact absurd (List.getElem?_eq_some_iff.1 hv).1 (by simp [pvs])

theorem cell_grown {w w' : World} {row : Option Nat} (hg : w.grownBy w' row) {p : Addr} (hl : p.block < w.heap.size) (hne : ∀ g, row = some g → g ≠ p.block) : w'.cell? p = w.cell? p :=
  World.cell?_of_block (hg.block p.block hl (fun e => hne _ e.symm rfl))

set_option maxRecDepth 100000 in
set_option maxHeartbeats 8000000 in
theorem RGet_any (A : Option Addr) (n cap B : Nat) (xs : List Int) (w : World) (hx : Rd w B A (u8s xs)) (hn : xs.length = n) (hnc : n ≤ cap) (hcap : cap ≤ maxLen) (hB : B ≤ w.heap.size) (hb : ∀ x ∈ xs, 0 ≤ x ∧ x ≤ 255) :
    Calls Tryd.prog 16 #[.slice A n cap] w fun e w' => ∃ A1 n1 c1 A2 n2 c2, e = .returned (.tuple #[pv (Pm.get xs).1 A1 n1 c1 A2 n2 c2, .int .i64 (Pm.get xs).2]) ∧ PlAt w' w'.heap.size (Pm.get xs).1 A1 n1 c1 A2 n2 c2 ∧ Below w.heap.size w w' := by
  have HZ1 : Hid ((w.alloc (.cells (pvs Pm.zero none 0 0 none 0 0).toArray 26)).heap.size = w.heap.size + 1) := World.size_alloc ..
  have hb1 := Lib.hid ((Below.refl w.heap.size w).alloc (Nat.le_refl _) (.cells (pvs Pm.zero none 0 0 none 0 0).toArray 26))
  have hth1 := Lib.hid (there_new w (pvs Pm.zero none 0 0 none 0 0) 26)
  have HX := Lib.hid hx
  have HN := Lib.hid hn
  have HB := Lib.hid hb
  have hcap' := hcap
  unfold maxLen at hcap'
  have HI0 := Lib.hid (RInts_any A n cap B xs 0 (w.alloc (.cells (pvs Pm.zero none 0 0 none 0 0).toArray 26)) (hx.below (hb1.out.mono hB)) hn hnc hcap (Nat.le_trans hB hb1.out.size) hb (by omega) (by omega))
  have hcs := Pm.get3_cases hb
  clear hx hn hb
  go_enter Tryd.func16, Tryd.ntmps16
  go_wp2_with (go_at_call 31; fail)
  refine HI0.out.mono ?_
  rintro e w2 ⟨v2, rfl, hown2, hb2'⟩
  clear HI0
  rw [HZ1.out] at hb2' hown2
  have hth2 := Lib.hid (there_below hth1.out hb2' (Nat.lt_succ_self _))
  have hbw2 := Lib.hid (hb1.out.trans (hb2'.mono (Nat.le_succ _)))
  have hz2 : w.heap.size + 1 ≤ w2.heap.size := by have := hb2'.size; rw [HZ1.out] at this; exact this
  clear hb2' hth1 hb1 HZ1
  rcases hcs with ⟨he0, hg⟩ | ⟨l, k0, e0, hk0, f0, s0, hcs⟩
  · have HE := Lib.hid (Pm.get_none hg)
    clear hown2 hg
    generalize Wm.rints xs 0 = q at *
    obtain ⟨q1, q2, q3⟩ := q
    dsimp only at *
    have hq : (q3 != 0) = true := by rw [bne_iff_ne]; exact he0
    clear he0
    have hrng := Lib.hid (World.rangeAt_setCells_same w2 w.heap.size 0 (pvs Pm.zero none 0 0 none 0 0) hth2.out)
    have hbe := Lib.hid (below_grown hbw2.out (grown_set w.heap.size (pvs Pm.zero none 0 0 none 0 0) 0 w2) (Nat.le_refl _) hbw2.out.size)
    go_wp2_with (refine wpList_store_mid rfl 26 _ _ rfl w.heap.size 0 (pvs Pm.zero none 0 0 none 0 0).toArray rfl rfl hth2.out info_plan (pvs_one _ _ _ _ _ _ _) ?_)
    refine bodyPost_ret (results_ct rfl _ _ w.heap.size (pvs Pm.zero none 0 0 none 0 0) _ rfl hrng.out Tryd.underlying26 rfl info_plan) rfl ?_
    exact ⟨none, 0, 0, none, 0, 0, by rw [HE.out]; rfl, by rw [HE.out]; exact plAt_zero _ _, hbe.out⟩
  rw [e0] at hown2 ⊢
  dsimp only at hown2 ⊢
  by_cases hl : l.length = 10
  case neg =>
    have HE := Lib.hid (Pm.get_len HB.out e0 hl)
    obtain ⟨A2, c2, rfl, -, -, -⟩ := own_view hown2
    have hq : ((l.length : Int) != 10) = true := by rw [bne_iff_ne]; omega
    clear e0 hl hown2 f0 s0 hcs
    have hrng := Lib.hid (World.rangeAt_setCells_same w2 w.heap.size 0 (pvs Pm.zero none 0 0 none 0 0) hth2.out)
    have hbe := Lib.hid (below_grown hbw2.out (grown_set w.heap.size (pvs Pm.zero none 0 0 none 0 0) 0 w2) (Nat.le_refl _) hbw2.out.size)
    go_wp2_with (refine wpList_store_mid rfl 26 _ _ rfl w.heap.size 0 (pvs Pm.zero none 0 0 none 0 0).toArray rfl rfl hth2.out info_plan (pvs_one _ _ _ _ _ _ _) ?_)
    refine bodyPost_ret (results_ct rfl _ _ w.heap.size (pvs Pm.zero none 0 0 none 0 0) _ rfl hrng.out Tryd.underlying26 rfl info_plan) rfl ?_
    exact ⟨none, 0, 0, none, 0, 0, by rw [HE.out]; rfl, by rw [HE.out]; exact plAt_zero _ _, hbe.out⟩
  rw [hl] at hown2
  obtain ⟨g, c2, rfl, hcp2, hcm2⟩ := hown2.form (by omega)
  obtain ⟨a0, a1, a2, a3, a4, a5, a6, a7, a8, a9, rfl⟩ : ∃ a0 a1 a2 a3 a4 a5 a6 a7 a8 a9, l = [a0, a1, a2, a3, a4, a5, a6, a7, a8, a9] := by
    match l, hl with
    | [a0, a1, a2, a3, a4, a5, a6, a7, a8, a9], _ => exact ⟨a0, a1, a2, a3, a4, a5, a6, a7, a8, a9, rfl⟩
  have HRG := Lib.hid (range_of_own hown2)
  have hgl := (hown2.lt g rfl).2
  have HF0 : Hid (Wm.Fits [a0, a1, a2, a3, a4, a5, a6, a7, a8, a9]) := f0
  clear e0 hl hown2 f0 s0
  have HI1 := Lib.hid (RInts_any A n cap B xs (k0 : Int) w2 (HX.out.below (hbw2.out.mono hB)) HN.out hnc hcap (Nat.le_trans hB hbw2.out.size) HB.out (by rw [HN.out] at hk0; omega) (by rw [HN.out] at hk0; omega))
  clear hk0
  go_wp2_with (go_at_call 31; fail)
  refine HI1.out.mono ?_
  rintro e w3 ⟨v3, rfl, hown3, hb3'⟩
  clear HI1
  have hth3 := Lib.hid (there_below hth2.out hb3' (by omega))
  have hbw3 := Lib.hid (hbw2.out.trans (hb3'.mono hbw2.out.size))
  have hk3 := Lib.hid hb3'
  have hz3 := hb3'.size
  clear hb3' hth2
  rcases hcs with ⟨he1, hg⟩ | ⟨m, k1, e1, hk1, f1, s1, hcs⟩
  · have HE := Lib.hid (Pm.get_none hg)
    clear hown3 hg
    generalize Wm.rints xs (k0 : Int) = q at *
    obtain ⟨q1, q2, q3⟩ := q
    dsimp only at *
    have hq : (q3 != 0) = true := by rw [bne_iff_ne]; exact he1
    clear he1
    have hrng := Lib.hid (World.rangeAt_setCells_same w3 w.heap.size 0 (pvs Pm.zero none 0 0 none 0 0) hth3.out)
    have hbe := Lib.hid (below_grown hbw3.out (grown_set w.heap.size (pvs Pm.zero none 0 0 none 0 0) 0 w3) (Nat.le_refl _) hbw3.out.size)
    go_wp2_with (refine wpList_store_mid rfl 26 _ _ rfl w.heap.size 0 (pvs Pm.zero none 0 0 none 0 0).toArray rfl rfl hth3.out info_plan (pvs_one _ _ _ _ _ _ _) ?_)
    refine bodyPost_ret (results_ct rfl _ _ w.heap.size (pvs Pm.zero none 0 0 none 0 0) _ rfl hrng.out Tryd.underlying26 rfl info_plan) rfl ?_
    exact ⟨none, 0, 0, none, 0, 0, by rw [HE.out]; rfl, by rw [HE.out]; exact plAt_zero _ _, hbe.out⟩
  rw [e1] at hown3 ⊢
  dsimp only at hown3 ⊢
  obtain ⟨A3, c3, rfl, hcp3, hcm3, hrd3⟩ := own_view hown3
  obtain ⟨n3, en3⟩ : ∃ n3, m.length = n3 := ⟨_, rfl⟩
  rw [en3] at hown3 hcp3 ⊢
  have EN3 := Lib.hid en3
  have hm64 : n3 ≤ 64 := by omega
  have HO3 := Lib.hid hown3
  have HR3 := Lib.hid hrd3
  have HF1 : Hid (Wm.Fits m) := f1
  clear e1 hown3 hrd3 f1 s1 en3
  have HI2 := Lib.hid (RInts_any A n cap B xs (k1 : Int) w3 (HX.out.below (hbw3.out.mono hB)) HN.out hnc hcap (Nat.le_trans hB hbw3.out.size) HB.out (by rw [HN.out] at hk1; omega) (by rw [HN.out] at hk1; omega))
  clear hk1
  go_wp2_with (go_at_call 31; fail)
  refine HI2.out.mono ?_
  rintro e w4 ⟨v4, rfl, hown4, hb4'⟩
  clear HI2
  have hth4 := Lib.hid (there_below hth3.out hb4' (by omega))
  have hbw4 := Lib.hid (hbw3.out.trans (hb4'.mono hbw3.out.size))
  have hk4 := Lib.hid hb4'
  have hz4 := hb4'.size
  clear hb4' hth3
  rcases hcs with ⟨he2, hg⟩ | ⟨o, j, e2, hk2, f2, s2, hcs⟩
  · have HE := Lib.hid (Pm.get_none hg)
    clear hown4 hg
    generalize Wm.rints xs (k1 : Int) = q at *
    obtain ⟨q1, q2, q3⟩ := q
    dsimp only at *
    have hq : (q3 != 0) = true := by rw [bne_iff_ne]; exact he2
    clear he2
    have hrng := Lib.hid (World.rangeAt_setCells_same w4 w.heap.size 0 (pvs Pm.zero none 0 0 none 0 0) hth4.out)
    have hbe := Lib.hid (below_grown hbw4.out (grown_set w.heap.size (pvs Pm.zero none 0 0 none 0 0) 0 w4) (Nat.le_refl _) hbw4.out.size)
    go_wp2_with (refine wpList_store_mid rfl 26 _ _ rfl w.heap.size 0 (pvs Pm.zero none 0 0 none 0 0).toArray rfl rfl hth4.out info_plan (pvs_one _ _ _ _ _ _ _) ?_)
    refine bodyPost_ret (results_ct rfl _ _ w.heap.size (pvs Pm.zero none 0 0 none 0 0) _ rfl hrng.out Tryd.underlying26 rfl info_plan) rfl ?_
    exact ⟨none, 0, 0, none, 0, 0, by rw [HE.out]; rfl, by rw [HE.out]; exact plAt_zero _ _, hbe.out⟩
  rw [e2] at hown4 ⊢
  dsimp only at hown4 ⊢
  obtain ⟨A4, c4, rfl, hcp4, hcm4, hrd4⟩ := own_view hown4
  obtain ⟨n4, en4⟩ : ∃ n4, o.length = n4 := ⟨_, rfl⟩
  rw [en4] at hown4 hcp4 ⊢
  have EN4 := Lib.hid en4
  have hm4 : n4 ≤ 64 := by omega
  have HO4 := Lib.hid hown4
  have HF2 : Hid (Wm.Fits o) := f2
  clear e2 hown4 hrd4 f2 s2 en4 hk2
  rcases hcs with ⟨hj, hg⟩ | ⟨hj, hg, -⟩
  · have HE := Lib.hid (Pm.get_none hg)
    rw [HN.out] at hj
    have hq : ((j : Int) != (n : Int)) = true := by rw [bne_iff_ne]; omega
    clear hg hj
    have hrng := Lib.hid (World.rangeAt_setCells_same w4 w.heap.size 0 (pvs Pm.zero none 0 0 none 0 0) hth4.out)
    have hbe := Lib.hid (below_grown hbw4.out (grown_set w.heap.size (pvs Pm.zero none 0 0 none 0 0) 0 w4) (Nat.le_refl _) hbw4.out.size)
    go_wp2_with (refine wpList_store_mid rfl 26 _ _ rfl w.heap.size 0 (pvs Pm.zero none 0 0 none 0 0).toArray rfl rfl hth4.out info_plan (pvs_one _ _ _ _ _ _ _) ?_)
    refine bodyPost_ret (results_ct rfl _ _ w.heap.size (pvs Pm.zero none 0 0 none 0 0) _ rfl hrng.out Tryd.underlying26 rfl info_plan) rfl ?_
    exact ⟨none, 0, 0, none, 0, 0, by rw [HE.out]; rfl, by rw [HE.out]; exact plAt_zero _ _, hbe.out⟩
  rw [HN.out] at hj
  have hq : ((j : Int) != (n : Int)) = false := by rw [bne_eq_false_iff_eq]; omega
  have HG := Lib.hid hg
  clear hg hj
  have FJ : Hid (∀ (W : World), Below w4.heap.size w4 W → W.rangeAt g 0 (i64s [a0, a1, a2, a3, a4, a5, a6, a7, a8, a9])) := fun W h i v hv => by
    rw [h.cell (by show g < _; omega), hk4.out.cell (by show g < _; omega), hk3.out.cell (by exact hgl)]
    exact HRG.out i v hv
  have c8 : w4.cell? ⟨g, 8, none⟩ = some (.int .i64 a8) := by have := FJ.out w4 (Below.refl _ _) 8 _ rfl; rwa [Nat.zero_add] at this
  have c9 : w4.cell? ⟨g, 9, none⟩ = some (.int .i64 a9) := by have := FJ.out w4 (Below.refl _ _) 9 _ rfl; rwa [Nat.zero_add] at this
  by_cases h8 : a8 < 0
  · have HE := Lib.hid (Pm.get_no HG.out (fun q => Pm.rt_neg8 (ns := [a0, a1, a2, a3, a4, a5, a6, a7, a8, a9]) h8 q.2))
    have hd : decide (a8 < 0) = true := by simpa using h8
    have hrng := Lib.hid (World.rangeAt_setCells_same w4 w.heap.size 0 (pvs Pm.zero none 0 0 none 0 0) hth4.out)
    have hbe := Lib.hid (below_grown hbw4.out (grown_set w.heap.size (pvs Pm.zero none 0 0 none 0 0) 0 w4) (Nat.le_refl _) hbw4.out.size)
    go_wp2_with (refine wpList_store_mid rfl 26 _ _ rfl w.heap.size 0 (pvs Pm.zero none 0 0 none 0 0).toArray rfl rfl hth4.out info_plan (pvs_one _ _ _ _ _ _ _) ?_)
    refine bodyPost_ret (results_ct rfl _ _ w.heap.size (pvs Pm.zero none 0 0 none 0 0) _ rfl hrng.out Tryd.underlying26 rfl info_plan) rfl ?_
    exact ⟨none, 0, 0, none, 0, 0, by rw [HE.out]; rfl, by rw [HE.out]; exact plAt_zero _ _, hbe.out⟩
  have d8 : decide (a8 < 0) = false := by simpa using h8
  by_cases h9 : a9 < 0
  · have HE := Lib.hid (Pm.get_no HG.out (fun q => Pm.rt_neg9 (ns := [a0, a1, a2, a3, a4, a5, a6, a7, a8, a9]) h9 q.2))
    have hd : decide (a9 < 0) = true := by simpa using h9
    have hrng := Lib.hid (World.rangeAt_setCells_same w4 w.heap.size 0 (pvs Pm.zero none 0 0 none 0 0) hth4.out)
    have hbe := Lib.hid (below_grown hbw4.out (grown_set w.heap.size (pvs Pm.zero none 0 0 none 0 0) 0 w4) (Nat.le_refl _) hbw4.out.size)
    go_wp2_with (refine wpList_store_mid rfl 26 _ _ rfl w.heap.size 0 (pvs Pm.zero none 0 0 none 0 0).toArray rfl rfl hth4.out info_plan (pvs_one _ _ _ _ _ _ _) ?_)
    refine bodyPost_ret (results_ct rfl _ _ w.heap.size (pvs Pm.zero none 0 0 none 0 0) _ rfl hrng.out Tryd.underlying26 rfl info_plan) rfl ?_
    exact ⟨none, 0, 0, none, 0, 0, by rw [HE.out]; rfl, by rw [HE.out]; exact plAt_zero _ _, hbe.out⟩
  have d9 : decide (a9 < 0) = false := by simpa using h9
  have HLIT : Hid (pvs (Pm.sml [a0, a1, a2, a3, a4, a5, a6, a7, a8, a9] m o) none 0 0 A4 n4 c4 = [.int .i64 a0, .int .i64 (Pm.sm a1), .int .i64 (Pm.sm a2), .int .i64 (Pm.sm a3), .int .i64 (Pm.sm a4), .int .i64 a5, .int .i64 a6, .int .i64 a7, .int .u64 (a8 % 18446744073709551616), .int .u64 (a9 % 18446744073709551616), .slice none 0 0, .slice A4 n4 c4]) := by
    rw [usw (HF0.out a8 (by simp)), usw (HF0.out a9 (by simp))]; exact Lib.hid rfl
  have HXO := Lib.hid (Pm.sml_ok (pen := m) HF0.out HF2.out)
  have HXR := Lib.hid (Pm.sml_right (pen := m) (ch := o) HF0.out)
  have F := fun (i : Nat) (v : Value) (hv : (i64s [a0, a1, a2, a3, a4, a5, a6, a7, a8, a9])[i]? = some v) (W : World) (h : Below w4.heap.size w4 W) => (by have := FJ.out W h i v hv; rwa [Nat.zero_add] at this : W.cell? ⟨g, i, none⟩ = some v)
  have HFF := Lib.hid F
  clear F h8 h9
  go_wp2_with fail
  clear c8 c9
  refine region_C (fun W => Below w4.heap.size w4 W) (by kernel_rfl) ?_
  have hC : Below w4.heap.size w4 w4.drew := (Below.refl _ _).drew
  refine anyC_take (i := 0) (v := ?v0_221) (a' := ?a0_221) rfl (by kernel_rfl) (by kernel_rfl) (by kernel_rfl) (fun _ _ _ h => h) hC ?w0_221 ?y0_221 ?f0_221 ?r0_221
  case w0_221 => kernel_rfl
  case y0_221 => (intro w hC; go_simp; try with_reducible rfl)
  case f0_221 => (go_simp; try with_reducible rfl)
  refine anyC_take (i := 3) (v := ?v3_222) (a' := ?a3_222) rfl (by kernel_rfl) (by kernel_rfl) (by kernel_rfl) (fun _ _ _ h => h) hC ?w3_222 ?y3_222 ?f3_222 ?r3_222
  case w3_222 => kernel_rfl
  case y3_222 => (intro w hC; go_simp; try with_reducible rfl)
  case f3_222 => (go_simp; try with_reducible rfl)
  refine anyC_take (i := 7) (v := ?v7_223) (a' := ?a7_223) rfl (by kernel_rfl) (by kernel_rfl) (by kernel_rfl) (fun _ _ _ h => h) hC ?w7_223 ?y7_223 ?f7_223 ?r7_223
  case w7_223 => kernel_rfl
  case y7_223 => (intro w hC; go_simp; try with_reducible rfl)
  case f7_223 => (go_simp; try with_reducible rfl)
  refine anyC_take (i := 11) (v := ?v11_224) (a' := ?a11_224) rfl (by kernel_rfl) (by kernel_rfl) (by kernel_rfl) (fun _ _ _ h => h) hC ?w11_224 ?y11_224 ?f11_224 ?r11_224
  case w11_224 => kernel_rfl
  case y11_224 => (intro w hC; go_simp; try with_reducible rfl)
  case f11_224 => (go_simp; try with_reducible rfl)
  refine anyC_take (i := 15) (v := ?v15_225) (a' := ?a15_225) rfl (by kernel_rfl) (by kernel_rfl) (by kernel_rfl) (fun _ _ _ h => h) hC ?w15_225 ?y15_225 ?f15_225 ?r15_225
  case w15_225 => kernel_rfl
  case y15_225 => (intro w hC; go_simp; try with_reducible rfl)
  case f15_225 => (go_simp; try with_reducible rfl)
  refine anyC_take (i := 19) (v := ?v19_226) (a' := ?a19_226) rfl (by kernel_rfl) (by kernel_rfl) (by kernel_rfl) (fun _ _ _ h => h) hC ?w19_226 ?y19_226 ?f19_226 ?r19_226
  case w19_226 => kernel_rfl
  case y19_226 => (intro w hC; go_simp; try with_reducible rfl)
  case f19_226 => (go_simp; try with_reducible rfl)
  refine anyC_take (i := 22) (v := ?v22_227) (a' := ?a22_227) rfl (by kernel_rfl) (by kernel_rfl) (by kernel_rfl) (fun _ _ _ h => h) hC ?w22_227 ?y22_227 ?f22_227 ?r22_227
  case w22_227 => kernel_rfl
  case y22_227 => (intro w hC; go_simp; try with_reducible rfl)
  case f22_227 => (go_simp; try with_reducible rfl)
  refine anyC_take (i := 25) (v := ?v25_228) (a' := ?a25_228) rfl (by kernel_rfl) (by kernel_rfl) (by kernel_rfl) (fun _ _ _ h => h) hC ?w25_228 ?y25_228 ?f25_228 ?r25_228
  case w25_228 => kernel_rfl
  case y25_228 => (intro w hC; go_simp; try with_reducible rfl)
  case f25_228 => (go_simp; try with_reducible rfl)
  refine anyC_take (i := 28) (v := ?v28_229) (a' := ?a28_229) rfl (by kernel_rfl) (by kernel_rfl) (by kernel_rfl) (fun _ _ _ h => h) hC ?w28_229 ?y28_229 ?f28_229 ?r28_229
  case w28_229 => kernel_rfl
  case y28_229 => (intro w hC; go_simp; try with_reducible rfl)
  case f28_229 => (go_simp; try with_reducible rfl)
  refine anyC_take (i := 32) (v := ?v32_230) (a' := ?a32_230) rfl (by kernel_rfl) (by kernel_rfl) (by kernel_rfl) (fun _ _ _ h => h) hC ?w32_230 ?y32_230 ?f32_230 ?r32_230
  case w32_230 => kernel_rfl
  case y32_230 => (intro w hC; go_simp; try with_reducible rfl)
  case f32_230 => (go_simp; try with_reducible rfl)
  refine anyC_take (i := 36) (v := ?v36_231) (a' := ?a36_231) rfl (by kernel_rfl) (by kernel_rfl) (by kernel_rfl) (fun _ _ _ h => h) hC ?w36_231 ?y36_231 ?f36_231 ?r36_231
  case w36_231 => kernel_rfl
  case y36_231 => (intro w hC; go_simp; try with_reducible rfl)
  case f36_231 => (go_simp; try with_reducible rfl)
  refine anyC_take (i := 1) (v := ?v1_232) (a' := ?a1_232) rfl (by kernel_rfl) (by kernel_rfl) (by kernel_rfl) (fun _ _ _ h => h) hC ?w1_232 ?y1_232 ?f1_232 ?r1_232
  case w1_232 => kernel_rfl
  case y1_232 => (intro w hC; have h4 := HFF.out 0 _ rfl w hC; go_simp; try with_reducible rfl)
  case f1_232 => (go_simp; try with_reducible rfl)
  refine anyC_take (i := 2) (v := ?v2_233) (a' := ?a2_233) rfl (by kernel_rfl) (by kernel_rfl) (by kernel_rfl) (fun _ _ _ h => h) hC ?w2_233 ?y2_233 ?f2_233 ?r2_233
  case w2_233 => kernel_rfl
  case y2_233 => (intro w hC; have h4 := HFF.out 0 _ rfl w hC; go_simp; try with_reducible rfl)
  case f2_233 => (go_simp; try with_reducible rfl)
  refine anyC_take (i := 4) (v := ?v4_234) (a' := ?a4_234) rfl (by kernel_rfl) (by kernel_rfl) (by kernel_rfl) (fun _ _ _ h => h) hC ?w4_234 ?y4_234 ?f4_234 ?r4_234
  case w4_234 => kernel_rfl
  case y4_234 => (intro w hC; go_simp; try with_reducible rfl)
  case f4_234 => (go_simp; try with_reducible rfl)
  refine anyC_take (i := 8) (v := ?v8_235) (a' := ?a8_235) rfl (by kernel_rfl) (by kernel_rfl) (by kernel_rfl) (fun _ _ _ h => h) hC ?w8_235 ?y8_235 ?f8_235 ?r8_235
  case w8_235 => kernel_rfl
  case y8_235 => (intro w hC; go_simp; try with_reducible rfl)
  case f8_235 => (go_simp; try with_reducible rfl)
  refine anyC_take (i := 12) (v := ?v12_236) (a' := ?a12_236) rfl (by kernel_rfl) (by kernel_rfl) (by kernel_rfl) (fun _ _ _ h => h) hC ?w12_236 ?y12_236 ?f12_236 ?r12_236
  case w12_236 => kernel_rfl
  case y12_236 => (intro w hC; go_simp; try with_reducible rfl)
  case f12_236 => (go_simp; try with_reducible rfl)
  refine anyC_take (i := 16) (v := ?v16_237) (a' := ?a16_237) rfl (by kernel_rfl) (by kernel_rfl) (by kernel_rfl) (fun _ _ _ h => h) hC ?w16_237 ?y16_237 ?f16_237 ?r16_237
  case w16_237 => kernel_rfl
  case y16_237 => (intro w hC; go_simp; try with_reducible rfl)
  case f16_237 => (go_simp; try with_reducible rfl)
  refine anyC_take (i := 20) (v := ?v20_238) (a' := ?a20_238) rfl (by kernel_rfl) (by kernel_rfl) (by kernel_rfl) (fun _ _ _ h => h) hC ?w20_238 ?y20_238 ?f20_238 ?r20_238
  case w20_238 => kernel_rfl
  case y20_238 => (intro w hC; go_simp; try with_reducible rfl)
  case f20_238 => (go_simp; try with_reducible rfl)
  refine anyC_take (i := 23) (v := ?v23_239) (a' := ?a23_239) rfl (by kernel_rfl) (by kernel_rfl) (by kernel_rfl) (fun _ _ _ h => h) hC ?w23_239 ?y23_239 ?f23_239 ?r23_239
  case w23_239 => kernel_rfl
  case y23_239 => (intro w hC; go_simp; try with_reducible rfl)
  case f23_239 => (go_simp; try with_reducible rfl)
  refine anyC_take (i := 26) (v := ?v26_240) (a' := ?a26_240) rfl (by kernel_rfl) (by kernel_rfl) (by kernel_rfl) (fun _ _ _ h => h) hC ?w26_240 ?y26_240 ?f26_240 ?r26_240
  case w26_240 => kernel_rfl
  case y26_240 => (intro w hC; go_simp; try with_reducible rfl)
  case f26_240 => (go_simp; try with_reducible rfl)
  refine anyC_take (i := 29) (v := ?v29_241) (a' := ?a29_241) rfl (by kernel_rfl) (by kernel_rfl) (by kernel_rfl) (fun _ _ _ h => h) hC ?w29_241 ?y29_241 ?f29_241 ?r29_241
  case w29_241 => kernel_rfl
  case y29_241 => (intro w hC; go_simp; try with_reducible rfl)
  case f29_241 => (go_simp; try with_reducible rfl)
  refine anyC_take (i := 33) (v := ?v33_242) (a' := ?a33_242) rfl (by kernel_rfl) (by kernel_rfl) (by kernel_rfl) (fun _ _ _ h => h) hC ?w33_242 ?y33_242 ?f33_242 ?r33_242
  case w33_242 => kernel_rfl
  case y33_242 => (intro w hC; go_simp; try with_reducible rfl)
  case f33_242 => (go_simp; try with_reducible rfl)
  refine anyC_take (i := 5) (v := ?v5_243) (a' := ?a5_243) rfl (by kernel_rfl) (by kernel_rfl) (by kernel_rfl) (fun _ _ _ h => h) hC ?w5_243 ?y5_243 ?f5_243 ?r5_243
  case w5_243 => kernel_rfl
  case y5_243 => (intro w hC; have h4 := HFF.out 1 _ rfl w hC; go_simp; try with_reducible rfl)
  case f5_243 => (go_simp; try with_reducible rfl)
  refine anyC_take (i := 9) (v := ?v9_244) (a' := ?a9_244) rfl (by kernel_rfl) (by kernel_rfl) (by kernel_rfl) (fun _ _ _ h => h) hC ?w9_244 ?y9_244 ?f9_244 ?r9_244
  case w9_244 => kernel_rfl
  case y9_244 => (intro w hC; have h4 := HFF.out 2 _ rfl w hC; go_simp; try with_reducible rfl)
  case f9_244 => (go_simp; try with_reducible rfl)
  refine anyC_take (i := 13) (v := ?v13_245) (a' := ?a13_245) rfl (by kernel_rfl) (by kernel_rfl) (by kernel_rfl) (fun _ _ _ h => h) hC ?w13_245 ?y13_245 ?f13_245 ?r13_245
  case w13_245 => kernel_rfl
  case y13_245 => (intro w hC; have h4 := HFF.out 3 _ rfl w hC; go_simp; try with_reducible rfl)
  case f13_245 => (go_simp; try with_reducible rfl)
  refine anyC_take (i := 17) (v := ?v17_246) (a' := ?a17_246) rfl (by kernel_rfl) (by kernel_rfl) (by kernel_rfl) (fun _ _ _ h => h) hC ?w17_246 ?y17_246 ?f17_246 ?r17_246
  case w17_246 => kernel_rfl
  case y17_246 => (intro w hC; have h4 := HFF.out 4 _ rfl w hC; go_simp; try with_reducible rfl)
  case f17_246 => (go_simp; try with_reducible rfl)
  refine anyC_take (i := 21) (v := ?v21_247) (a' := ?a21_247) rfl (by kernel_rfl) (by kernel_rfl) (by kernel_rfl) (fun _ _ _ h => h) hC ?w21_247 ?y21_247 ?f21_247 ?r21_247
  case w21_247 => kernel_rfl
  case y21_247 => (intro w hC; have h4 := HFF.out 5 _ rfl w hC; go_simp; try with_reducible rfl)
  case f21_247 => (go_simp; try with_reducible rfl)
  refine anyC_take (i := 24) (v := ?v24_248) (a' := ?a24_248) rfl (by kernel_rfl) (by kernel_rfl) (by kernel_rfl) (fun _ _ _ h => h) hC ?w24_248 ?y24_248 ?f24_248 ?r24_248
  case w24_248 => kernel_rfl
  case y24_248 => (intro w hC; have h4 := HFF.out 6 _ rfl w hC; go_simp; try with_reducible rfl)
  case f24_248 => (go_simp; try with_reducible rfl)
  refine anyC_take (i := 27) (v := ?v27_249) (a' := ?a27_249) rfl (by kernel_rfl) (by kernel_rfl) (by kernel_rfl) (fun _ _ _ h => h) hC ?w27_249 ?y27_249 ?f27_249 ?r27_249
  case w27_249 => kernel_rfl
  case y27_249 => (intro w hC; have h4 := HFF.out 7 _ rfl w hC; go_simp; try with_reducible rfl)
  case f27_249 => (go_simp; try with_reducible rfl)
  refine anyC_take (i := 30) (v := ?v30_250) (a' := ?a30_250) rfl (by kernel_rfl) (by kernel_rfl) (by kernel_rfl) (fun _ _ _ h => h) hC ?w30_250 ?y30_250 ?f30_250 ?r30_250
  case w30_250 => kernel_rfl
  case y30_250 => (intro w hC; have h4 := HFF.out 8 _ rfl w hC; go_simp; try with_reducible rfl)
  case f30_250 => (go_simp; try with_reducible rfl)
  refine anyC_take (i := 34) (v := ?v34_251) (a' := ?a34_251) rfl (by kernel_rfl) (by kernel_rfl) (by kernel_rfl) (fun _ _ _ h => h) hC ?w34_251 ?y34_251 ?f34_251 ?r34_251
  case w34_251 => kernel_rfl
  case y34_251 => (intro w hC; have h4 := HFF.out 9 _ rfl w hC; go_simp; try with_reducible rfl)
  case f34_251 => (go_simp; try with_reducible rfl)
  refine anyC_take (i := 31) (v := ?v31_252) (a' := ?a31_252) rfl (by kernel_rfl) (by kernel_rfl) (by kernel_rfl) (fun _ _ _ h => h) hC ?w31_252 ?y31_252 ?f31_252 ?r31_252
  case w31_252 => kernel_rfl
  case y31_252 => (intro w hC; go_simp; try with_reducible rfl)
  case f31_252 => (go_simp; try with_reducible rfl)
  refine anyC_take (i := 35) (v := ?v35_253) (a' := ?a35_253) rfl (by kernel_rfl) (by kernel_rfl) (by kernel_rfl) (fun _ _ _ h => h) hC ?w35_253 ?y35_253 ?f35_253 ?r35_253
  case w35_253 => kernel_rfl
  case y35_253 => (intro w hC; go_simp; try with_reducible rfl)
  case f35_253 => (go_simp; try with_reducible rfl)
  refine anyC_call (i := 6) (a' := ?a6_254) rfl (by kernel_rfl) (by kernel_rfl) (by kernel_rfl) (fun _ _ _ h => h) hC (fun W _ => (small_any a1 W).mono fun _ _ h => ⟨h.1, h.2.symm⟩) (by kernel_rfl) ?y6_254 ?f6_254 ?r6_254
  case y6_254 => (intro W hW; go_simp; try with_reducible rfl)
  case f6_254 => (go_simp; try with_reducible rfl)
  refine anyC_call (i := 10) (a' := ?a10_255) rfl (by kernel_rfl) (by kernel_rfl) (by kernel_rfl) (fun _ _ _ h => h) hC (fun W _ => (small_any a2 W).mono fun _ _ h => ⟨h.1, h.2.symm⟩) (by kernel_rfl) ?y10_255 ?f10_255 ?r10_255
  case y10_255 => (intro W hW; go_simp; try with_reducible rfl)
  case f10_255 => (go_simp; try with_reducible rfl)
  refine anyC_call (i := 14) (a' := ?a14_256) rfl (by kernel_rfl) (by kernel_rfl) (by kernel_rfl) (fun _ _ _ h => h) hC (fun W _ => (small_any a3 W).mono fun _ _ h => ⟨h.1, h.2.symm⟩) (by kernel_rfl) ?y14_256 ?f14_256 ?r14_256
  case y14_256 => (intro W hW; go_simp; try with_reducible rfl)
  case f14_256 => (go_simp; try with_reducible rfl)
  refine anyC_call (i := 18) (a' := ?a18_257) rfl (by kernel_rfl) (by kernel_rfl) (by kernel_rfl) (fun _ _ _ h => h) hC (fun W _ => (small_any a4 W).mono fun _ _ h => ⟨h.1, h.2.symm⟩) (by kernel_rfl) ?y18_257 ?f18_257 ?r18_257
  case y18_257 => (intro W hW; go_simp; try with_reducible rfl)
  case f18_257 => (go_simp; try with_reducible rfl)
  refine anyC_take (i := 37) (v := ?v37_258) (a' := ?a37_258) rfl (by kernel_rfl) (by kernel_rfl) (by kernel_rfl) (fun _ _ _ h => h) hC ?w37_258 ?y37_258 ?f37_258 ?r37_258
  case w37_258 => kernel_rfl
  case y37_258 => (intro w hC; go_simp; try with_reducible rfl)
  case f37_258 => (go_simp; try with_reducible rfl)
  refine anyC_one (i := 38) rfl (by kernel_rfl) (by kernel_rfl) (fun K hK => ?_)
  go_simp
  have hC38 : Below w4.heap.size w4 (w4.alloc (.cells #[.int .i64 0, .int .i64 0, .int .i64 0, .int .i64 0, .int .i64 0, .int .i64 0, .int .i64 0, .int .i64 0, .int .u64 0, .int .u64 0, .slice none 0 0, .slice none 0 0] 26)).drew := ((Below.refl _ _).alloc (Nat.le_refl _) _).drew
  refine hK _ _ ⟨hC38, ?_⟩
  clear hK K
  refine anyC_one (i := 39) rfl (by kernel_rfl) (by kernel_rfl) (fun K hK => ?_)
  refine op_store_drew 26 (.tmp 9) (.tmp 101) rfl _ (pvs (Pm.sml [a0, a1, a2, a3, a4, a5, a6, a7, a8, a9] m o) none 0 0 A4 n4 c4).toArray w4.heap.size rfl rfl (by rw [HLIT.out]; rfl) info_plan rfl (pvs_one _ _ _ _ _ _ _) ?_
  have hC39 : Below w4.heap.size w4 (w4.alloc (.cells (pvs (Pm.sml [a0, a1, a2, a3, a4, a5, a6, a7, a8, a9] m o) none 0 0 A4 n4 c4).toArray 26)).drew := ((Below.refl _ _).alloc (Nat.le_refl _) _).drew
  refine hK _ _ ⟨hC39, ?_⟩
  clear hK K hC38 hC HLIT
  go_simp
  refine anyC_done (by kernel_rfl) ?_
  have hbx5 : Bx (w4.alloc (.cells (pvs (Pm.sml [a0, a1, a2, a3, a4, a5, a6, a7, a8, a9] m o) none 0 0 A4 n4 c4).toArray 26)).drew w4.heap.size (Pm.sml [a0, a1, a2, a3, a4, a5, a6, a7, a8, a9] m o) none 0 0 A4 n4 c4 := Bx.new w4 (Pm.sml [a0, a1, a2, a3, a4, a5, a6, a7, a8, a9] m o) none 0 0 A4 n4 c4 26
  have hth5 : (w4.alloc (.cells (pvs (Pm.sml [a0, a1, a2, a3, a4, a5, a6, a7, a8, a9] m o) none 0 0 A4 n4 c4).toArray 26)).drew.there w4.heap.size 0 12 := by rw [World.there_drew]; exact there_new w4 (pvs (Pm.sml [a0, a1, a2, a3, a4, a5, a6, a7, a8, a9] m o) none 0 0 A4 n4 c4) 26
  have hz5 : w4.heap.size + 1 ≤ (w4.alloc (.cells (pvs (Pm.sml [a0, a1, a2, a3, a4, a5, a6, a7, a8, a9] m o) none 0 0 A4 n4 c4).toArray 26)).drew.heap.size := by
    show _ ≤ (w4.alloc _).heap.size
    rw [World.size_alloc]; exact Nat.le_refl _
  generalize (w4.alloc (.cells (pvs (Pm.sml [a0, a1, a2, a3, a4, a5, a6, a7, a8, a9] m o) none 0 0 A4 n4 c4).toArray 26)).drew = w5 at *
  have HXP : Hid ((Pm.sml [a0, a1, a2, a3, a4, a5, a6, a7, a8, a9] m o).pen = m.map Pm.sm) := rfl
  have HXC : Hid ((Pm.sml [a0, a1, a2, a3, a4, a5, a6, a7, a8, a9] m o).ch = o) := rfl
  have HXE := Lib.hid (fun (h : Pm.Rt [a0, a1, a2, a3, a4, a5, a6, a7, a8, a9] m o) => Pm.sml_eq h)
  generalize (Pm.sml [a0, a1, a2, a3, a4, a5, a6, a7, a8, a9] m o) = X at *
  have HBX5 := Lib.hid hbx5
  have HTH5 := Lib.hid hth5
  have HK5 := Lib.hid hC39
  obtain ⟨i1, hi1, hz10, hz11, hz12⟩ := info_parts info_int
  have hv3 := Lib.hid (fun gg (h : (Value.slice A3 n3 c3).ownBlock = some gg) => (HO3.out.lt gg h).2)
  clear hbx5 hth5 hC39 hq d8 d9
  go_wp2_with fail
  go_loopw [10] (fun ix wr => ∃ (k : Nat) (Ak : Option Addr) (ck : Nat), ix = .int .i64 (k : Int) ∧ k ≤ n3 ∧ Hid (wr.ownsRow (w4.heap.size + 1) 3 1 (.slice Ak k ck) k (i64s ((m.take k).map Pm.sm))) ∧ Hid (Bx wr w4.heap.size X Ak k ck A4 n4 c4) ∧ Hid (wr.there w4.heap.size 0 12) ∧ Hid (Below w4.heap.size w4 wr) ∧ Hid (w4.heap.size + 1 ≤ wr.heap.size)) (fun ix _ => n3 - (intOf ix).toNat)
  case atStart => exact ⟨0, none, 0, rfl, by omega, Lib.hid (World.ownsRow_nil _ _ _ _), HBX5, HTH5, HK5, Lib.hid hz5⟩
  case round =>
    obtain ⟨k, Ak, ck, rfl, hk, hOW, hBX, hTH, hBK, hZ⟩ := hrel
    clear HBX5 HTH5 HK5
    by_cases hlt : k < n3
    · obtain ⟨y, hyk⟩ : ∃ y, m[k]? = some y := ⟨m[k]'(by have := EN3.out; omega), List.getElem?_eq_getElem (by have := EN3.out; omega)⟩
      have hHR := HR3.out.below (hk4.out)
      obtain ⟨ad3, e3, had3, hc3⟩ := (hHR.below (hBK.out.mono hz4)).getU hyk
      subst e3
      have hkn : (k : Int) < (n3 : Int) := by omega
      have HTK : Hid ((m.take (k + 1)).map Pm.sm = (m.take k).map Pm.sm ++ [Pm.sm y]) := by show _ = _; rw [List.take_add_one, hyk]; simp
      have hpen := hBX.out.pen
      have hC : wr.drew.cell? ⟨w4.heap.size, 10, none⟩ = some (.slice Ak k ck) ∧ wr.drew.cell? (ad3.add k) = some (.int .i64 y) := ⟨hpen, hc3⟩
      have had : ad3.block < wr.heap.size := by have := hZ.out; omega
      clear hyk hHR
      go_wp2_with fail
      refine region_E (fun W => W.cell? ⟨w4.heap.size, 10, none⟩ = some (.slice Ak k ck) ∧ W.cell? (ad3.add k) = some (.int .i64 y)) (fun i => i == 10) (by kernel_rfl) ?_
      refine anyE_take (i := 0) (v := ?v0_259) (a' := ?a0_259) rfl (by kernel_rfl) (by kernel_rfl) (by kernel_rfl) (fun _ _ _ h => h) hC (by kernel_rfl) ?w0_259 ?y0_259 ?f0_259 ?r0_259
      case w0_259 => kernel_rfl
      case y0_259 => (intro w hC; go_simp; try with_reducible rfl)
      case f0_259 => (go_simp; try with_reducible rfl)
      refine anyE_take (i := 2) (v := ?v2_260) (a' := ?a2_260) rfl (by kernel_rfl) (by kernel_rfl) (by kernel_rfl) (fun _ _ _ h => h) hC (by kernel_rfl) ?w2_260 ?y2_260 ?f2_260 ?r2_260
      case w2_260 => kernel_rfl
      case y2_260 => (intro w hC; go_simp; try with_reducible rfl)
      case f2_260 => (go_simp; try with_reducible rfl)
      refine anyE_take (i := 3) (v := ?v3_261) (a' := ?a3_261) rfl (by kernel_rfl) (by kernel_rfl) (by kernel_rfl) (fun _ _ _ h => h) hC (by kernel_rfl) ?w3_261 ?y3_261 ?f3_261 ?r3_261
      case w3_261 => kernel_rfl
      case y3_261 => (intro w hC; go_simp; try with_reducible rfl)
      case f3_261 => (go_simp; try with_reducible rfl)
      refine anyE_take (i := 1) (v := ?v1_262) (a' := ?a1_262) rfl (by kernel_rfl) (by kernel_rfl) (by kernel_rfl) (fun _ _ _ h => h) hC (by kernel_rfl) ?w1_262 ?y1_262 ?f1_262 ?r1_262
      case w1_262 => kernel_rfl
      case y1_262 => (intro w hC; have h4 := hC.1; go_simp; try with_reducible rfl)
      case f1_262 => (go_simp; try with_reducible rfl)
      refine anyE_take (i := 4) (v := ?v4_263) (a' := ?a4_263) rfl (by kernel_rfl) (by kernel_rfl) (by kernel_rfl) (fun _ _ _ h => h) hC (by kernel_rfl) ?w4_263 ?y4_263 ?f4_263 ?r4_263
      case w4_263 => kernel_rfl
      case y4_263 => (intro w hC; go_simp; try with_reducible rfl)
      case f4_263 => (go_simp; try with_reducible rfl)
      refine anyE_take (i := 5) (v := ?v5_264) (a' := ?a5_264) rfl (by kernel_rfl) (by kernel_rfl) (by kernel_rfl) (fun _ _ _ h => h) hC (by kernel_rfl) ?w5_264 ?y5_264 ?f5_264 ?r5_264
      case w5_264 => kernel_rfl
      case y5_264 => (intro w hC; have h4 := hC.2; go_simp; try with_reducible rfl)
      case f5_264 => (go_simp; try with_reducible rfl)
      refine anyE_call (i := 6) (a' := ?a6_265) rfl (by kernel_rfl) (by kernel_rfl) (by kernel_rfl) (fun _ _ _ h => h) hC (by kernel_rfl) (fun W _ => (small_any y W).mono fun _ _ h => ⟨h.1, h.2.symm⟩) (by kernel_rfl) ?y6_265 ?f6_265 ?r6_265
      case y6_265 => (intro W hW; go_simp; try with_reducible rfl)
      case f6_265 => (go_simp; try with_reducible rfl)
      refine anyE_one (i := 7) rfl (by kernel_rfl) (by kernel_rfl) (fun K hK => ?_)
      go_simp
      have hC7 : ((wr.alloc (.cells #[.int .i64 (Pm.sm y)] 3)).drew).cell? ⟨w4.heap.size, 10, none⟩ = some (.slice Ak k ck) ∧ ((wr.alloc (.cells #[.int .i64 (Pm.sm y)] 3)).drew).cell? (ad3.add k) = some (.int .i64 y) := by
        refine ⟨?_, ?_⟩
        · show (wr.alloc _).cell? _ = _
          rw [World.cell?_alloc_lt _ _ _ (by show w4.heap.size < _; have := hZ.out; omega)]; exact hpen
        · show (wr.alloc _).cell? _ = _
          rw [World.cell?_alloc_lt _ _ _ (by rw [addr_add_block]; exact had)]; exact hc3
      refine hK _ _ ⟨hC7, ?_⟩
      clear hK K hC
      refine anyE_one (i := 8) rfl (by kernel_rfl) (by kernel_rfl) (fun K hK => ?_)
      have hown7 : ((wr.alloc (.cells #[.int .i64 (Pm.sm y)] 3)).drew).ownsRow (w4.heap.size + 1) 3 1 (.slice Ak k ck) k (i64s ((m.take k).map Pm.sm)) := hOW.out.alloc _
      have hrd7 : Rd ((wr.alloc (.cells #[.int .i64 (Pm.sm y)] 3)).drew) (wr.heap.size + 1) (some ⟨wr.heap.size, 0, none⟩) [.int .i64 (Pm.sm y)] := Rd.new wr (wr.heap.size + 1) [.int .i64 (Pm.sm y)] 3 (0, 0) (by omega)
      have hz7 : wr.heap.size + 1 ≤ ((wr.alloc (.cells #[.int .i64 (Pm.sm y)] 3)).drew).heap.size := by
        show _ ≤ (wr.alloc _).heap.size
        rw [World.size_alloc]; exact Nat.le_refl _
      have hk7 : Below wr.heap.size wr ((wr.alloc (.cells #[.int .i64 (Pm.sm y)] 3)).drew) := ((Below.refl _ _).alloc (Nat.le_refl _) _).drew
      generalize (wr.alloc (.cells #[.int .i64 (Pm.sm y)] 3)).drew = w7 at *
      refine op_app (.tmp 109) (.tmp 115) 23 rfl (w4.heap.size + 1) 3 i1 (.int .i64 0) 8 Tryd.underlying23 hi1 hz10 hz11 hz12 rfl _ _ _ rfl hown7 _ _ 1 1 [.int .i64 (Pm.sm y)] rfl rfl hrd7 (oneCell_ints .i64 [Pm.sm y]) (by unfold maxLen; omega) (by omega) (by have := hZ.out; omega) ?_
      intro v8 w8 hown8 hgrow8
      have hob : ∀ gg, (Value.slice Ak k ck).ownBlock = some gg → w4.heap.size + 1 ≤ gg := fun gg h => (hown7.lt gg h).1
      have hb9 : w8.heap[w4.heap.size]? = w7.heap[w4.heap.size]? := hgrow8.block _ (by have := hZ.out; omega) (fun e => by have := hob _ e.symm; omega)
      have hC8 : w8.cell? ⟨w4.heap.size, 10, none⟩ = some (.slice Ak k ck) ∧ w8.cell? (ad3.add k) = some (.int .i64 y) := by
        refine ⟨?_, ?_⟩
        · rw [cell_grown hgrow8 (by show w4.heap.size < _; have := hZ.out; omega) (fun gg h => by have := hob gg h; show gg ≠ w4.heap.size; omega)]; exact hC7.1
        · rw [cell_grown hgrow8 (by rw [addr_add_block]; omega) (fun gg h => by have := hob gg h; rw [addr_add_block]; omega)]; exact hC7.2
      have HOW8 : Hid (w8.ownsRow (w4.heap.size + 1) 3 1 v8 (k + 1) (i64s ((m.take (k + 1)).map Pm.sm))) := by
        show World.ownsRow _ _ _ _ _ _ _
        rw [HTK.out]
        simpa [i64s] using hown8
      obtain ⟨A8, c8', rfl, -, -, -⟩ := own_view HOW8.out
      have hBX8 : Bx w8 w4.heap.size X Ak k ck A4 n4 c4 := fun j v hv => by
        rw [World.cell?_of_block hb9]
        exact (hBX.out.below hk7 (by have := hZ.out; omega)) j v hv
      have hTH8 : w8.there w4.heap.size 0 12 := fun j hj => by
        obtain ⟨t1, t2⟩ := (there_below hTH.out hk7 (by have := hZ.out; omega)) j hj
        exact ⟨by rw [World.cell?_of_block hb9]; exact t1, by rw [World.frozen?_of_block hb9]; exact t2⟩
      have hBK8 := Lib.hid ((hBK.out.trans (hk7.mono (by have := hZ.out; omega))).grown hgrow8 (by have := hZ.out; omega) (fun gg h => by have := hob gg h; omega))
      have hz8 : w4.heap.size + 1 ≤ w8.heap.size := by have := hgrow8.size; have := hZ.out; omega
      refine hK _ _ ⟨hC8, ?_⟩
      clear hK K hC7 hown7 hrd7 hown8 hgrow8 hk7 hob
      go_simp
      refine anyE_take (i := 9) (v := ?v9_266) (a' := ?a9_266) rfl (by kernel_rfl) (by kernel_rfl) (by kernel_rfl) (fun _ _ _ h => h) hC8 (by kernel_rfl) ?w9_266 ?y9_266 ?f9_266 ?r9_266
      case w9_266 => kernel_rfl
      case y9_266 => (intro w hC; go_simp; try with_reducible rfl)
      case f9_266 => (go_simp; try with_reducible rfl)
      have hcl := hC8.1
      have hfz : w8.frozen? ⟨w4.heap.size, 10, none⟩ = false := by have := (hTH8 10 (by omega)).2; rwa [Nat.zero_add] at this
      have HBX9 := Lib.hid (hBX8.setPen A8 (k + 1) c8')
      have hg9 := grown_set1 w4.heap.size 10 (.slice A8 (k + 1) c8') w8
      have HOW9 := Lib.hid (own_grown HOW8.out hg9 (Nat.lt_succ_self _))
      have HTH9 : Hid ((w8.setCell ⟨w4.heap.size, 10, none⟩ (.slice A8 (k + 1) c8')).there w4.heap.size 0 12) := World.there_setCells hTH8 w4.heap.size 10 [.slice A8 (k + 1) c8']
      have HBK9 := Lib.hid (below_grown hBK8.out hg9 (Nat.le_refl _) (by omega))
      have HZ9 := Lib.hid (Nat.le_trans hz8 hg9.size)
      refine anyE_late (i := 10) rfl (by kernel_rfl) (by kernel_rfl) rfl (fun K hK => ?_)
      go_simp
      refine hK _ _ ?_
      clear hK K
      refine anyE_done (by kernel_rfl) ?_
      clear hC8 hBX8 hTH8 hg9 hb9 hcl hfz
      go_wp2
      go_roundw
      case rel => exact ⟨k + 1, A8, c8', by go_num, by omega, HOW9, HBX9, HTH9, HBK9, HZ9⟩
      case measure => simp [intOf]; omega
    · obtain rfl : k = n3 := by omega
      have howk := hOW.out
      rw [List.take_of_length_le (by rw [EN3.out]; exact Nat.le_refl _)] at howk
      have HOK := Lib.hid howk
      obtain ⟨_, _, ek, hcpk, hcmk, rdk⟩ := own_view howk
      injection ek with ek1 ek2 ek3
      subst ek1 ek3
      have ho4 := own_below HO4.out hBK.out (Nat.le_refl _)
      have HO4r := Lib.hid ho4
      obtain ⟨_, _, e4, -, -, rd4⟩ := own_view ho4
      injection e4 with e41 e42 e43
      subst e41 e43
      have hPA : PlAt wr wr.heap.size X Ak k ck A4 n4 c4 := ⟨HXO.out, by rw [HXP.out]; exact rdk, by rw [HXP.out, List.length_map]; exact EN3.out, hcpk, hcmk, by rw [HXC.out]; exact rd4, by rw [HXC.out]; exact EN4.out, hcp4, hcm4⟩
      have HRR := Lib.hid (RRight_any X Ak k ck A4 n4 c4 wr.heap.size wr hPA (Nat.le_refl _))
      rw [HXR.out] at HRR
      have hbwr := Lib.hid (hbw4.out.trans (hBK.out.mono hbw4.out.size))
      have hthr : Hid (wr.there w.heap.size 0 12) := there_below hth4.out hBK.out (by omega)
      have hzr := hZ.out
      clear howk rdk rd4 ho4 hPA hOW hBK hTH hZ hk hlt
      go_wp2_with (first | (refine wpList_load_mid rfl 26 _ rfl w4.heap.size 0 rfl (pvs X Ak k ck A4 n4 c4) _ hBX.out Tryd.underlying26 rfl info_plan ?_) | (go_at_call 14; fail))
      refine HRR.out.mono ?_
      rintro e w9 ⟨rfl, hb9⟩
      have hbw9 := Lib.hid (hbwr.out.trans (hb9.mono hbwr.out.size))
      have hth9 : Hid (w9.there w.heap.size 0 12) := there_below hthr.out hb9 (by omega)
      have HO9 := Lib.hid (own_below HOK.out hb9 (Nat.le_refl _))
      have HO49 := Lib.hid (own_below HO4r.out hb9 (Nat.le_refl _))
      have hBX9 := Lib.hid (hBX.out.below hb9 (by omega))
      clear hb9 HRR hbwr hthr HOK HO4r hBX
      by_cases hrt : Pm.Rt [a0, a1, a2, a3, a4, a5, a6, a7, a8, a9] m o
      · have HE : Hid (Pm.get xs = (X, 0)) := by
          rw [Pm.get_ok HG.out rfl (Pm.ask_yes hrt), HXE.out hrt]; exact Lib.hid rfl
        rw [Pm.ask_yes hrt]
        clear hrt
        have hg9 := grown_set w.heap.size (pvs X Ak k ck A4 n4 c4) 0 w9
        have hrng := Lib.hid (World.rangeAt_setCells_same w9 w.heap.size 0 (pvs X Ak k ck A4 n4 c4) hth9.out)
        have hbe := Lib.hid (below_grown hbw9.out hg9 (Nat.le_refl _) hbw9.out.size)
        have own8 := own_grown HO9.out hg9 (by omega)
        have own2 := own_grown HO49.out hg9 (by omega)
        obtain ⟨_, _, e8, -, -, rd8⟩ := own_view own8
        injection e8 with e81 e82 e83
        subst e81 e83
        obtain ⟨_, _, e2, -, -, rd2⟩ := own_view own2
        injection e2 with e21 e22 e23
        subst e21 e23
        have hPA : Hid (PlAt (w9.setCells w.heap.size 0 (pvs X Ak k ck A4 n4 c4)) (w9.setCells w.heap.size 0 (pvs X Ak k ck A4 n4 c4)).heap.size X Ak k ck A4 n4 c4) :=
          ⟨HXO.out, by rw [HXP.out]; exact rd8, by rw [HXP.out, List.length_map]; exact EN3.out, hcpk, hcmk, by rw [HXC.out]; exact rd2, by rw [HXC.out]; exact EN4.out, hcp4, hcm4⟩
        clear own8 own2 rd8 rd2 hg9
        go_wp2_with (first | (refine wpList_load_mid rfl 26 _ rfl w4.heap.size 0 rfl (pvs X Ak k ck A4 n4 c4) _ hBX9.out Tryd.underlying26 rfl info_plan ?_) | (refine wpList_store_mid rfl 26 _ _ rfl w.heap.size 0 (pvs X Ak k ck A4 n4 c4).toArray rfl rfl hth9.out info_plan (pvs_one _ _ _ _ _ _ _) ?_))
        refine bodyPost_ret (results_ct rfl _ _ w.heap.size (pvs X Ak k ck A4 n4 c4) _ rfl hrng.out Tryd.underlying26 rfl info_plan) rfl ?_
        exact ⟨Ak, k, ck, A4, n4, c4, by rw [HE.out]; rfl, by rw [HE.out]; exact hPA.out, hbe.out⟩
      · have HE := Lib.hid (Pm.get_no HG.out (fun q => hrt (by
          refine Classical.byContradiction fun c => ?_
          have := q.2
          rw [Pm.ask_no c] at this
          cases this)))
        rw [Pm.ask_no hrt]
        clear hrt
        have hrng := Lib.hid (World.rangeAt_setCells_same w9 w.heap.size 0 (pvs Pm.zero none 0 0 none 0 0) hth9.out)
        have hbe := Lib.hid (below_grown hbw9.out (grown_set w.heap.size (pvs Pm.zero none 0 0 none 0 0) 0 w9) (Nat.le_refl _) hbw9.out.size)
        go_wp2_with (refine wpList_store_mid rfl 26 _ _ rfl w.heap.size 0 (pvs Pm.zero none 0 0 none 0 0).toArray rfl rfl hth9.out info_plan (pvs_one _ _ _ _ _ _ _) ?_)
        refine bodyPost_ret (results_ct rfl _ _ w.heap.size (pvs Pm.zero none 0 0 none 0 0) _ rfl hrng.out Tryd.underlying26 rfl info_plan) rfl ?_
        exact ⟨none, 0, 0, none, 0, 0, by rw [HE.out]; rfl, by rw [HE.out]; exact plAt_zero _ _, hbe.out⟩
end Go.Proofs.YtdcdlnmgbgeeeaaDoor
