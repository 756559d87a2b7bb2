/- The law PlanBack walked. -/
import Derived.Test.YtdcdlnmgbgeeeaaDoorPk
import Derived.Test.YtdcdlnmgbgeeeaaDoorQw
namespace Go.Proofs.YtdcdlnmgbgeeeaaDoor
open Go.RowKit Go.Shelf

namespace Pm
theorem back_same {x y : Pl} (hx : x.Ok) (hy : y.Ok) (h : x.right = true) (h2 : y.right = true) : decide (x.put.1 = y.put.1) = same x y := by
  by_cases e : x = y
  · rw [show same x y = true from ask_yes e]
    exact decide_eq_true (by rw [e])
  · rw [show same x y = false from ask_no e]
    exact decide_eq_false (fun q => e (put_inj hx hy h h2 q))
end Pm

set_option maxRecDepth 100000 in
set_option maxHeartbeats 8000000 in
theorem back_walk (x : Pm.Pl) (A : Option Addr) (n c : Nat) (A' : Option Addr) (n' c' : Nat) (y : Pm.Pl) (D : Option Addr) (m d : Nat) (D' : Option Addr) (m' d' : Nat) (a : Option Addr) (len cap : Nat) (z : List Int) (w : World)
    (hp : PlAt w w.heap.size x A n c A' n' c') (hq : PlAt w w.heap.size y D m d D' m' d') (hr : RowOf .u8 w a len cap z) (ht : Tab w) :
    Calls Tryd.prog 6 #[pv x A n c A' n' c', pv y D m d D' m' d', .slice a len cap] w fun e w' => e = .returned (.bool true) ∧ Below w.heap.size w w' := by
  obtain ⟨bs, hbl, hlc, hcm, hbr, hbw⟩ := row_rd hr
  have hbb := Lib.hid (wf_u8 hbw)
  have HBR := Lib.hid hbr
  have HBL := Lib.hid hbl
  clear hr hbr hbw hbl
  have b0 := Bx.new w x A n c A' n' c' 26
  have hb0 : Below w.heap.size w (w.alloc (.cells (pvs x A n c A' n' c').toArray 26)) := (Below.refl _ w).alloc (Nat.le_refl _) _
  have hz1 : (w.alloc (.cells (pvs x A n c A' n' c').toArray 26)).heap.size = w.heap.size + 1 := World.size_alloc ..
  have b1 := Bx.new (w.alloc (.cells (pvs x A n c A' n' c').toArray 26)) y D m d D' m' d' 26
  have b0' : Bx ((w.alloc (.cells (pvs x A n c A' n' c').toArray 26)).alloc (.cells (pvs y D m d D' m' d').toArray 26)) w.heap.size x A n c A' n' c' := b0.below (B := w.heap.size + 1) ((Below.refl _ _).alloc (by omega) _) (Nat.lt_succ_self _)
  have HB1 := Lib.hid (hb0.alloc (o := .cells (pvs y D m d D' m' d').toArray 26) (by omega))
  rw [hz1] at b1
  have HZ2 : Hid (((w.alloc (.cells (pvs x A n c A' n' c').toArray 26)).alloc (.cells (pvs y D m d D' m' d').toArray 26)).heap.size = w.heap.size + 2) := by
    show _ = _
    rw [World.size_alloc, hz1]
  have HRX : Hid (∀ (W : World), Below (w.heap.size + 2) ((w.alloc (.cells (pvs x A n c A' n' c').toArray 26)).alloc (.cells (pvs y D m d D' m' d').toArray 26)) W → W.rangeAt w.heap.size 0 (pvs x A n c A' n' c')) := fun W h => b0'.below h (by omega)
  have HRY : Hid (∀ (W : World), Below (w.heap.size + 2) ((w.alloc (.cells (pvs x A n c A' n' c').toArray 26)).alloc (.cells (pvs y D m d D' m' d').toArray 26)) W → W.rangeAt (w.heap.size + 1) 0 (pvs y D m d D' m' d')) := fun W h => b1.below h (by omega)
  have HI1 : Hid ((Tryd.prog.info? 26).map (·.size) = some (pvs x A n c A' n' c').length) := info_plan
  have HI2 : Hid ((Tryd.prog.info? 26).map (·.size) = some (pvs y D m d D' m' d').length) := info_plan
  have HH := Lib.hid (head_any _ ((ht.alloc (.cells (pvs x A n c A' n' c').toArray 26)).alloc (.cells (pvs y D m d D' m' d').toArray 26)))
  have HP := Lib.hid hp
  have HQ := Lib.hid hq
  have HT := Lib.hid ht
  clear b0 b0' b1 hb0 hz1 hp hq ht
  have HPX := Lib.hid (fun W (h : PlAt W w.heap.size x A n c A' n' c') h2 (h3 : Tab W) => Put_any x A n c A' n' c' w.heap.size W h h2 h3)
  have HPY := Lib.hid (fun W (h : PlAt W w.heap.size y D m d D' m' d') h2 (h3 : Tab W) => Put_any y D m d D' m' d' w.heap.size W h h2 h3)
  have HSX := Lib.hid (fun (E : Option Addr) (p q : Nat) (E' : Option Addr) (p' q' : Nat) (B2 : Nat) (W : World) (h : PlAt W w.heap.size x A n c A' n' c') (h' : PlAt W B2 x E p q E' p' q') (h2 : w.heap.size ≤ W.heap.size) (h3 : B2 ≤ W.heap.size) => RSame_any x x A n c A' n' c' w.heap.size E p q E' p' q' B2 W h h' h2 h3)
  have HSY := Lib.hid (fun W (h : PlAt W w.heap.size x A n c A' n' c') (h' : PlAt W w.heap.size y D m d D' m' d') (h2 : w.heap.size ≤ W.heap.size) => RSame_any x y A n c A' n' c' w.heap.size D m d D' m' d' w.heap.size W h h' h2 h2)
  rw [show Pm.same x x = true from Pm.ask_yes rfl] at HSX
  rw [pv_eq] at HPX HPY HSX
  rw [pv_eq, pv_eq] at HSY ⊢
  generalize pvs x A n c A' n' c' = L at *
  generalize pvs y D m d D' m' d' = M at *
  go_enter Tryd.func6, Tryd.ntmps6
  go_wp2_with (go_at_call 10; fail)
  refine HH.out.mono ?_
  rintro e w2 ⟨rfl, hb2⟩
  have hC2 : Hid (Below (w.heap.size + 2) ((w.alloc (.cells L.toArray 26)).alloc (.cells M.toArray 26)) w2) := hb2.mono (by rw [HZ2.out]; exact Nat.le_refl _)
  have hz2 : w.heap.size + 2 ≤ w2.heap.size := by have := hC2.out.size; rw [HZ2.out] at this; exact this
  have hw2 := Lib.hid (HB1.out.trans (hC2.out.mono (by omega)))
  clear hb2 HH
  go_wp2_with (first | (refine wpList_load_mid rfl 26 _ rfl w.heap.size 0 rfl L _ (HRX.out _ hC2.out) Tryd.underlying26 rfl HI1.out ?_) | (go_at_call 11; fail))
  refine (HPX.out w2 (HP.out.below hw2.out (Nat.le_refl _)) (by omega) (HT.out.below hw2.out (Nat.le_refl _))).mono ?_
  rintro e w3 ⟨v3, rfl, hown3, hb3⟩
  have hC3 := Lib.hid (hC2.out.trans (hb3.mono hz2))
  have hz3 := Nat.le_trans hz2 hb3.size
  have hw3 := Lib.hid (HB1.out.trans (hC3.out.mono (by omega)))
  obtain ⟨A3, c3, rfl, hcp3, hcm3, hrd3⟩ := own_view hown3
  have HR3 := Lib.hid hrd3
  clear hb3 hown3 hrd3 hC2 hw2 HPX
  go_wp2_with (first | (refine wpList_load_mid rfl 26 _ rfl (w.heap.size + 1) 0 rfl M _ (HRY.out _ hC3.out) Tryd.underlying26 rfl HI2.out ?_) | (go_at_call 11; fail))
  refine (HPY.out w3 (HQ.out.below hw3.out (Nat.le_refl _)) (by omega) (HT.out.below hw3.out (Nat.le_refl _))).mono ?_
  rintro e w4 ⟨v4, rfl, hown4, hb4⟩
  have hC4 := Lib.hid (hC3.out.trans (hb4.mono hz3))
  have hz4 := Nat.le_trans hz3 hb4.size
  have hw4 := Lib.hid (HB1.out.trans (hC4.out.mono (by omega)))
  have HR34 := Lib.hid (HR3.out.below hb4)
  have hz34 := hb4.size
  obtain ⟨A4, c4, rfl, hcp4, hcm4, hrd4⟩ := own_view hown4
  have HR4 := Lib.hid hrd4
  clear hb4 hown4 hrd4 hC3 hw3 HPY HR3
  have hby1 := Lib.hid (Pm.put_byte HP.out.ok)
  have hby2 := Lib.hid (Pm.put_byte HQ.out.ok)
  cases hrx : x.right with
  | false =>
    have hx2 : x.put.2 = 41 := by rw [Pm.Pl.put_no hrx]
    rw [hx2]
    clear hrx hx2 HSX HSY
    go_wp2_with fail
    refine region_C (fun W => Below w4.heap.size w4 W) (by kernel_rfl) ?_
    have hC : Below w4.heap.size w4 w4.drew := (Below.refl _ _).drew
    refine anyC_take (i := 0) (v := ?v0_1) (a' := ?a0_1) rfl (by kernel_rfl) (by kernel_rfl) (by kernel_rfl) (fun _ _ _ h => h) hC ?w0_1 ?y0_1 ?f0_1 ?r0_1
    case w0_1 => kernel_rfl
    case y0_1 => (intro w hC; go_simp; try with_reducible rfl)
    case f0_1 => (go_simp; try with_reducible rfl)
    refine anyC_take (i := 1) (v := ?v1_2) (a' := ?a1_2) rfl (by kernel_rfl) (by kernel_rfl) (by kernel_rfl) (fun _ _ _ h => h) hC ?w1_2 ?y1_2 ?f1_2 ?r1_2
    case w1_2 => kernel_rfl
    case y1_2 => (intro w hC; go_simp; try with_reducible rfl)
    case f1_2 => (go_simp; try with_reducible rfl)
    refine anyC_take (i := 2) (v := ?v2_3) (a' := ?a2_3) rfl (by kernel_rfl) (by kernel_rfl) (by kernel_rfl) (fun _ _ _ h => h) hC ?w2_3 ?y2_3 ?f2_3 ?r2_3
    case w2_3 => kernel_rfl
    case y2_3 => (intro w hC; go_simp; try with_reducible rfl)
    case f2_3 => (go_simp; try with_reducible rfl)
    refine anyC_skip (i := 3) (a' := ?a3_4) rfl (by kernel_rfl) (by kernel_rfl) (by kernel_rfl) (fun _ _ _ h => h) hC (by kernel_rfl) ?f3_4 ?r3_4
    case f3_4 => (go_simp; try with_reducible rfl)
    refine anyC_skip (i := 4) (a' := ?a4_5) rfl (by kernel_rfl) (by kernel_rfl) (by kernel_rfl) (fun _ _ _ h => h) hC (by kernel_rfl) ?f4_5 ?r4_5
    case f4_5 => (go_simp; try with_reducible rfl)
    refine anyC_take (i := 5) (v := ?v5_6) (a' := ?a5_6) rfl (by kernel_rfl) (by kernel_rfl) (by kernel_rfl) (fun _ _ _ h => h) hC ?w5_6 ?y5_6 ?f5_6 ?r5_6
    case w5_6 => kernel_rfl
    case y5_6 => (intro w hC; go_simp; try with_reducible rfl)
    case f5_6 => (go_simp; try with_reducible rfl)
    refine anyC_take (i := 6) (v := ?v6_7) (a' := ?a6_7) rfl (by kernel_rfl) (by kernel_rfl) (by kernel_rfl) (fun _ _ _ h => h) hC ?w6_7 ?y6_7 ?f6_7 ?r6_7
    case w6_7 => kernel_rfl
    case y6_7 => (intro w hC; go_simp; try with_reducible rfl)
    case f6_7 => (go_simp; try with_reducible rfl)
    refine anyC_skip (i := 7) (a' := ?a7_8) rfl (by kernel_rfl) (by kernel_rfl) (by kernel_rfl) (fun _ _ _ h => h) hC (by kernel_rfl) ?f7_8 ?r7_8
    case f7_8 => (go_simp; try with_reducible rfl)
    refine anyC_skip (i := 8) (a' := ?a8_9) rfl (by kernel_rfl) (by kernel_rfl) (by kernel_rfl) (fun _ _ _ h => h) hC (by kernel_rfl) ?f8_9 ?r8_9
    case f8_9 => (go_simp; try with_reducible rfl)
    refine anyC_skip (i := 9) (a' := ?a9_10) rfl (by kernel_rfl) (by kernel_rfl) (by kernel_rfl) (fun _ _ _ h => h) hC (by kernel_rfl) ?f9_10 ?r9_10
    case f9_10 => (go_simp; try with_reducible rfl)
    refine anyC_skip (i := 10) (a' := ?a10_11) rfl (by kernel_rfl) (by kernel_rfl) (by kernel_rfl) (fun _ _ _ h => h) hC (by kernel_rfl) ?f10_11 ?r10_11
    case f10_11 => (go_simp; try with_reducible rfl)
    refine anyC_skip (i := 11) (a' := ?a11_12) rfl (by kernel_rfl) (by kernel_rfl) (by kernel_rfl) (fun _ _ _ h => h) hC (by kernel_rfl) ?f11_12 ?r11_12
    case f11_12 => (go_simp; try with_reducible rfl)
    refine anyC_skip (i := 12) (a' := ?a12_13) rfl (by kernel_rfl) (by kernel_rfl) (by kernel_rfl) (fun _ _ _ h => h) hC (by kernel_rfl) ?f12_13 ?r12_13
    case f12_13 => (go_simp; try with_reducible rfl)
    refine anyC_skip (i := 13) (a' := ?a13_14) rfl (by kernel_rfl) (by kernel_rfl) (by kernel_rfl) (fun _ _ _ h => h) hC (by kernel_rfl) ?f13_14 ?r13_14
    case f13_14 => (go_simp; try with_reducible rfl)
    refine anyC_skip (i := 14) (a' := ?a14_15) rfl (by kernel_rfl) (by kernel_rfl) (by kernel_rfl) (fun _ _ _ h => h) hC (by kernel_rfl) ?f14_15 ?r14_15
    case f14_15 => (go_simp; try with_reducible rfl)
    refine anyC_skip (i := 15) (a' := ?a15_16) rfl (by kernel_rfl) (by kernel_rfl) (by kernel_rfl) (fun _ _ _ h => h) hC (by kernel_rfl) ?f15_16 ?r15_16
    case f15_16 => (go_simp; try with_reducible rfl)
    refine anyC_take (i := 16) (v := ?v16_17) (a' := ?a16_17) rfl (by kernel_rfl) (by kernel_rfl) (by kernel_rfl) (fun _ _ _ h => h) hC ?w16_17 ?y16_17 ?f16_17 ?r16_17
    case w16_17 => kernel_rfl
    case y16_17 => (intro w hC; go_simp; try with_reducible rfl)
    case f16_17 => (go_simp; try with_reducible rfl)
    refine anyC_done (by kernel_rfl) ?_
    have hwd := Lib.hid hw4.out.drew
    have HG := Lib.hid (Get_any a len cap w.heap.size bs _ (HBR.out.below hwd.out) HBL.out hlc hcm hwd.out.size hbb.out (HT.out.below hwd.out (Nat.le_refl _)))
    go_wp2_with (go_at_call 15; fail)
    refine HG.out.mono ?_
    rintro e w8 ⟨E1, p1, q1, E2, p2, q2, rfl, hpa, hb8⟩
    have hw8 := Lib.hid (hwd.out.trans (hb8.mono hwd.out.size))
    have hbx := Bx.new w8 (Pm.get bs).1 E1 p1 q1 E2 p2 q2 26
    have hw9 := Lib.hid (hw8.out.alloc hw8.out.size (.cells (pvs (Pm.get bs).1 E1 p1 q1 E2 p2 q2).toArray 26))
    have hk9 : Below w8.heap.size w8 (w8.alloc (.cells (pvs (Pm.get bs).1 E1 p1 q1 E2 p2 q2).toArray 26)) := (Below.refl _ _).alloc (Nat.le_refl _) _
    have hpa9 := hpa.below hk9 (Nat.le_refl _)
    have HBX := Lib.hid hbx
    have HPA := Lib.hid hpa9
    have HS9 : Hid (w8.heap.size ≤ (w8.alloc (.cells (pvs (Pm.get bs).1 E1 p1 q1 E2 p2 q2).toArray 26)).heap.size) := hk9.size
    have hl := hpa.l1
    clear hb8 HG hbx hpa hpa9 hk9
    obtain ⟨hok, h | ⟨h0, h1, h2⟩⟩ := Pm.get_kept hbb.out
    · rw [h] at HBX HPA hw9 HS9 hl ⊢
      have hp1 : p1 = 0 := hl.symm
      subst hp1
      have f0 : (w8.alloc (.cells (pvs Pm.zero E1 0 q1 E2 p2 q2).toArray 26)).cell? ⟨w8.heap.size, 0, none⟩ = some (.int .i64 0) := HBX.out.at 0 rfl
      have f10 := HBX.out.pen
      clear h hok hl
      go_wp2_with (refine wpList_store_new rfl 26 _ _ rfl _ (pvs Pm.zero E1 0 q1 E2 p2 q2).toArray rfl rfl info_plan rfl (pvs_one _ _ _ _ _ _ _) ?_)
      go_ret
      exact ⟨rfl, hw9.out⟩
    · rw [h0]
      have HPUT := Lib.hid (Put_any (Pm.get bs).1 E1 p1 q1 E2 p2 q2 w8.heap.size _ HPA.out HS9.out (HT.out.below hw9.out (Nat.le_refl _)))
      rw [h2, pv_eq] at HPUT
      rw [pv_eq]
      have HRG : Hid ((w8.alloc (.cells (pvs (Pm.get bs).1 E1 p1 q1 E2 p2 q2).toArray 26)).rangeAt w8.heap.size 0 (pvs (Pm.get bs).1 E1 p1 q1 E2 p2 q2)) := HBX.out
      have hone := Lib.hid (pvs_one (Pm.get bs).1 E1 p1 q1 E2 p2 q2)
      have hin : Hid ((Tryd.prog.info? 26).map (·.size) = some (pvs (Pm.get bs).1 E1 p1 q1 E2 p2 q2).length) := info_plan
      have hin2 : Hid ((Tryd.prog.info? 26).map (·.size) = some (pvs (Pm.get bs).1 E1 p1 q1 E2 p2 q2).toArray.size) := info_plan
      have hsz : Hid (12 = (pvs (Pm.get bs).1 E1 p1 q1 E2 p2 q2).toArray.size) := rfl
      clear h0 h1 h2 hok hl HBX HPA
      generalize pvs (Pm.get bs).1 E1 p1 q1 E2 p2 q2 = R at *
      go_wp2_with (first | (refine wpList_store_new rfl 26 _ _ rfl _ R.toArray rfl rfl hin2.out hsz.out hone.out ?_) | (refine wpList_load_mid rfl 26 _ rfl w8.heap.size 0 rfl R _ HRG.out Tryd.underlying26 rfl hin.out ?_) | (go_at_call 11; fail))
      refine HPUT.out.mono ?_
      rintro e w10 ⟨v10, rfl, hown10, hb10⟩
      obtain ⟨A10, c10, rfl, -, -, hrd10⟩ := own_view hown10
      have hw10 := Lib.hid (hw9.out.trans (hb10.mono hw9.out.size))
      have s1 := str_of (cap := c10) hrd10 rfl
      have s2 := str_of (cap := cap) (HBR.out.below hw10.out) HBL.out
      have hST : ((strOfNums bs).toList == (strOfNums bs).toList) = true := by rw [beq_self_eq_true]
      clear hown10 hb10 hrd10 HPUT
      go_wp2
      go_ret
      exact ⟨rfl, hw10.out⟩
  | true =>
    have hx2 : x.put.2 = 0 := by rw [Pm.Pl.put_ok hrx]
    have hgp := Pm.get_put HP.out.ok hrx
    rw [hx2]
    have HG1 := Lib.hid (Get_any A3 x.put.1.length c3 w3.heap.size x.put.1 w4 HR34.out rfl hcp3 hcm3 hz34 hby1.out (HT.out.below hw4.out (Nat.le_refl _)))
    rw [hgp] at HG1
    clear hx2 hgp
    go_wp2_with (go_at_call 15; fail)
    refine HG1.out.mono ?_
    rintro e w5 ⟨F1, s1, t1, F2, s2, t2, rfl, hpa5, hb5⟩
    have hC5 := Lib.hid (hC4.out.trans (hb5.mono hz4))
    have hz5 := Nat.le_trans hz4 hb5.size
    have hbx5 := Lib.hid (Bx.new w5 x F1 s1 t1 F2 s2 t2 26)
    have hC6 := Lib.hid (hC5.out.alloc hz5 (.cells (pvs x F1 s1 t1 F2 s2 t2).toArray 26))
    have hk6 : Below w5.heap.size w5 (w5.alloc (.cells (pvs x F1 s1 t1 F2 s2 t2).toArray 26)) := (Below.refl _ _).alloc (Nat.le_refl _) _
    have hs6 := hk6.size
    have hk46 := Lib.hid (Below.trans (Below.refl w4.heap.size w4) (hb5.trans (hk6.mono hb5.size)))
    have hw6 := Lib.hid (HB1.out.trans (hC6.out.mono (by omega)))
    have hpa6 := Lib.hid (hpa5.below hk6 (Nat.le_refl _))
    have HRZ : Hid ((w5.alloc (.cells (pvs x F1 s1 t1 F2 s2 t2).toArray 26)).rangeAt w5.heap.size 0 (pvs x F1 s1 t1 F2 s2 t2)) := hbx5.out
    have hz45 := hb5.size
    have HS1 := Lib.hid (HSX.out F1 s1 t1 F2 s2 t2 w5.heap.size _ (HP.out.below hw6.out (Nat.le_refl _)) hpa6.out (by omega) hs6)
    rw [pv_eq] at HS1 ⊢
    have hone := Lib.hid (pvs_one x F1 s1 t1 F2 s2 t2)
    have hin : Hid ((Tryd.prog.info? 26).map (·.size) = some (pvs x F1 s1 t1 F2 s2 t2).length) := info_plan
    have hin2 : Hid ((Tryd.prog.info? 26).map (·.size) = some (pvs x F1 s1 t1 F2 s2 t2).toArray.size) := info_plan
    have hsz : Hid (12 = (pvs x F1 s1 t1 F2 s2 t2).toArray.size) := rfl
    clear hb5 hpa5 hbx5 hk6 HG1 hpa6 HSX
    generalize pvs x F1 s1 t1 F2 s2 t2 = R at *
    go_wp2_with (first | (refine wpList_store_new rfl 26 _ _ rfl _ R.toArray rfl rfl hin2.out hsz.out hone.out ?_) | (refine wpList_load_on 26 _ rfl w.heap.size 0 rfl L _ (HRX.out _ hC6.out) Tryd.underlying26 rfl HI1.out (by kernel_rfl) ?_) | (refine wpList_load_on 26 _ rfl w5.heap.size 0 rfl R _ HRZ.out Tryd.underlying26 rfl hin.out (by kernel_rfl) ?_) | (go_at_call 17; fail))
    refine HS1.out.mono ?_
    rintro e w7 ⟨rfl, hb7⟩
    have hC7 := Lib.hid (hC6.out.trans (hb7.mono (by omega)))
    have hk47 := Lib.hid (hk46.out.trans (hb7.mono (by omega)))
    have hw7 := Lib.hid (HB1.out.trans (hC7.out.mono (by omega)))
    have hz7 : w4.heap.size ≤ w7.heap.size := hk47.out.size
    clear hb7 HS1 hC6 hk46 hw6 HRZ hC5 hs6
    cases hry : y.right with
    | false =>
      have hy2 : y.put.2 = 41 := by rw [Pm.Pl.put_no hry]
      rw [hy2]
      clear hry hy2 HSY
      go_wp2_with fail
      refine region_C (fun W => Below w7.heap.size w7 W) (by kernel_rfl) ?_
      have hC : Below w7.heap.size w7 w7.drew := (Below.refl _ _).drew
      refine anyC_take (i := 0) (v := ?v0_18) (a' := ?a0_18) rfl (by kernel_rfl) (by kernel_rfl) (by kernel_rfl) (fun _ _ _ h => h) hC ?w0_18 ?y0_18 ?f0_18 ?r0_18
      case w0_18 => kernel_rfl
      case y0_18 => (intro w hC; go_simp; try with_reducible rfl)
      case f0_18 => (go_simp; try with_reducible rfl)
      refine anyC_take (i := 1) (v := ?v1_19) (a' := ?a1_19) rfl (by kernel_rfl) (by kernel_rfl) (by kernel_rfl) (fun _ _ _ h => h) hC ?w1_19 ?y1_19 ?f1_19 ?r1_19
      case w1_19 => kernel_rfl
      case y1_19 => (intro w hC; go_simp; try with_reducible rfl)
      case f1_19 => (go_simp; try with_reducible rfl)
      refine anyC_take (i := 2) (v := ?v2_20) (a' := ?a2_20) rfl (by kernel_rfl) (by kernel_rfl) (by kernel_rfl) (fun _ _ _ h => h) hC ?w2_20 ?y2_20 ?f2_20 ?r2_20
      case w2_20 => kernel_rfl
      case y2_20 => (intro w hC; go_simp; try with_reducible rfl)
      case f2_20 => (go_simp; try with_reducible rfl)
      refine anyC_take (i := 3) (v := ?v3_21) (a' := ?a3_21) rfl (by kernel_rfl) (by kernel_rfl) (by kernel_rfl) (fun _ _ _ h => h) hC ?w3_21 ?y3_21 ?f3_21 ?r3_21
      case w3_21 => kernel_rfl
      case y3_21 => (intro w hC; go_simp; try with_reducible rfl)
      case f3_21 => (go_simp; try with_reducible rfl)
      refine anyC_take (i := 4) (v := ?v4_22) (a' := ?a4_22) rfl (by kernel_rfl) (by kernel_rfl) (by kernel_rfl) (fun _ _ _ h => h) hC ?w4_22 ?y4_22 ?f4_22 ?r4_22
      case w4_22 => kernel_rfl
      case y4_22 => (intro w hC; go_simp; try with_reducible rfl)
      case f4_22 => (go_simp; try with_reducible rfl)
      refine anyC_take (i := 5) (v := ?v5_23) (a' := ?a5_23) rfl (by kernel_rfl) (by kernel_rfl) (by kernel_rfl) (fun _ _ _ h => h) hC ?w5_23 ?y5_23 ?f5_23 ?r5_23
      case w5_23 => kernel_rfl
      case y5_23 => (intro w hC; go_simp; try with_reducible rfl)
      case f5_23 => (go_simp; try with_reducible rfl)
      refine anyC_take (i := 6) (v := ?v6_24) (a' := ?a6_24) rfl (by kernel_rfl) (by kernel_rfl) (by kernel_rfl) (fun _ _ _ h => h) hC ?w6_24 ?y6_24 ?f6_24 ?r6_24
      case w6_24 => kernel_rfl
      case y6_24 => (intro w hC; go_simp; try with_reducible rfl)
      case f6_24 => (go_simp; try with_reducible rfl)
      refine anyC_skip (i := 7) (a' := ?a7_25) rfl (by kernel_rfl) (by kernel_rfl) (by kernel_rfl) (fun _ _ _ h => h) hC (by kernel_rfl) ?f7_25 ?r7_25
      case f7_25 => (go_simp; try with_reducible rfl)
      refine anyC_skip (i := 8) (a' := ?a8_26) rfl (by kernel_rfl) (by kernel_rfl) (by kernel_rfl) (fun _ _ _ h => h) hC (by kernel_rfl) ?f8_26 ?r8_26
      case f8_26 => (go_simp; try with_reducible rfl)
      refine anyC_skip (i := 9) (a' := ?a9_27) rfl (by kernel_rfl) (by kernel_rfl) (by kernel_rfl) (fun _ _ _ h => h) hC (by kernel_rfl) ?f9_27 ?r9_27
      case f9_27 => (go_simp; try with_reducible rfl)
      refine anyC_skip (i := 10) (a' := ?a10_28) rfl (by kernel_rfl) (by kernel_rfl) (by kernel_rfl) (fun _ _ _ h => h) hC (by kernel_rfl) ?f10_28 ?r10_28
      case f10_28 => (go_simp; try with_reducible rfl)
      refine anyC_skip (i := 11) (a' := ?a11_29) rfl (by kernel_rfl) (by kernel_rfl) (by kernel_rfl) (fun _ _ _ h => h) hC (by kernel_rfl) ?f11_29 ?r11_29
      case f11_29 => (go_simp; try with_reducible rfl)
      refine anyC_skip (i := 12) (a' := ?a12_30) rfl (by kernel_rfl) (by kernel_rfl) (by kernel_rfl) (fun _ _ _ h => h) hC (by kernel_rfl) ?f12_30 ?r12_30
      case f12_30 => (go_simp; try with_reducible rfl)
      refine anyC_skip (i := 13) (a' := ?a13_31) rfl (by kernel_rfl) (by kernel_rfl) (by kernel_rfl) (fun _ _ _ h => h) hC (by kernel_rfl) ?f13_31 ?r13_31
      case f13_31 => (go_simp; try with_reducible rfl)
      refine anyC_skip (i := 14) (a' := ?a14_32) rfl (by kernel_rfl) (by kernel_rfl) (by kernel_rfl) (fun _ _ _ h => h) hC (by kernel_rfl) ?f14_32 ?r14_32
      case f14_32 => (go_simp; try with_reducible rfl)
      refine anyC_skip (i := 15) (a' := ?a15_33) rfl (by kernel_rfl) (by kernel_rfl) (by kernel_rfl) (fun _ _ _ h => h) hC (by kernel_rfl) ?f15_33 ?r15_33
      case f15_33 => (go_simp; try with_reducible rfl)
      refine anyC_take (i := 16) (v := ?v16_34) (a' := ?a16_34) rfl (by kernel_rfl) (by kernel_rfl) (by kernel_rfl) (fun _ _ _ h => h) hC ?w16_34 ?y16_34 ?f16_34 ?r16_34
      case w16_34 => kernel_rfl
      case y16_34 => (intro w hC; go_simp; try with_reducible rfl)
      case f16_34 => (go_simp; try with_reducible rfl)
      refine anyC_done (by kernel_rfl) ?_
      have hwd := Lib.hid hw7.out.drew
      have HG := Lib.hid (Get_any a len cap w.heap.size bs _ (HBR.out.below hwd.out) HBL.out hlc hcm hwd.out.size hbb.out (HT.out.below hwd.out (Nat.le_refl _)))
      go_wp2_with (go_at_call 15; fail)
      refine HG.out.mono ?_
      rintro e w8 ⟨E1, p1, q1, E2, p2, q2, rfl, hpa, hb8⟩
      have hw8 := Lib.hid (hwd.out.trans (hb8.mono hwd.out.size))
      have hbx := Bx.new w8 (Pm.get bs).1 E1 p1 q1 E2 p2 q2 26
      have hw9 := Lib.hid (hw8.out.alloc hw8.out.size (.cells (pvs (Pm.get bs).1 E1 p1 q1 E2 p2 q2).toArray 26))
      have hk9 : Below w8.heap.size w8 (w8.alloc (.cells (pvs (Pm.get bs).1 E1 p1 q1 E2 p2 q2).toArray 26)) := (Below.refl _ _).alloc (Nat.le_refl _) _
      have hpa9 := hpa.below hk9 (Nat.le_refl _)
      have HBX := Lib.hid hbx
      have HPA := Lib.hid hpa9
      have HS9 : Hid (w8.heap.size ≤ (w8.alloc (.cells (pvs (Pm.get bs).1 E1 p1 q1 E2 p2 q2).toArray 26)).heap.size) := hk9.size
      have hl := hpa.l1
      clear hb8 HG hbx hpa hpa9 hk9
      obtain ⟨hok, h | ⟨h0, h1, h2⟩⟩ := Pm.get_kept hbb.out
      · rw [h] at HBX HPA hw9 HS9 hl ⊢
        have hp1 : p1 = 0 := hl.symm
        subst hp1
        have f0 : (w8.alloc (.cells (pvs Pm.zero E1 0 q1 E2 p2 q2).toArray 26)).cell? ⟨w8.heap.size, 0, none⟩ = some (.int .i64 0) := HBX.out.at 0 rfl
        have f10 := HBX.out.pen
        clear h hok hl
        go_wp2_with (refine wpList_store_new rfl 26 _ _ rfl _ (pvs Pm.zero E1 0 q1 E2 p2 q2).toArray rfl rfl info_plan rfl (pvs_one _ _ _ _ _ _ _) ?_)
        go_ret
        exact ⟨rfl, hw9.out⟩
      · rw [h0]
        have HPUT := Lib.hid (Put_any (Pm.get bs).1 E1 p1 q1 E2 p2 q2 w8.heap.size _ HPA.out HS9.out (HT.out.below hw9.out (Nat.le_refl _)))
        rw [h2, pv_eq] at HPUT
        rw [pv_eq]
        have HRG : Hid ((w8.alloc (.cells (pvs (Pm.get bs).1 E1 p1 q1 E2 p2 q2).toArray 26)).rangeAt w8.heap.size 0 (pvs (Pm.get bs).1 E1 p1 q1 E2 p2 q2)) := HBX.out
        have hone := Lib.hid (pvs_one (Pm.get bs).1 E1 p1 q1 E2 p2 q2)
        have hin : Hid ((Tryd.prog.info? 26).map (·.size) = some (pvs (Pm.get bs).1 E1 p1 q1 E2 p2 q2).length) := info_plan
        have hin2 : Hid ((Tryd.prog.info? 26).map (·.size) = some (pvs (Pm.get bs).1 E1 p1 q1 E2 p2 q2).toArray.size) := info_plan
        have hsz : Hid (12 = (pvs (Pm.get bs).1 E1 p1 q1 E2 p2 q2).toArray.size) := rfl
        clear h0 h1 h2 hok hl HBX HPA
        generalize pvs (Pm.get bs).1 E1 p1 q1 E2 p2 q2 = R at *
        go_wp2_with (first | (refine wpList_store_new rfl 26 _ _ rfl _ R.toArray rfl rfl hin2.out hsz.out hone.out ?_) | (refine wpList_load_mid rfl 26 _ rfl w8.heap.size 0 rfl R _ HRG.out Tryd.underlying26 rfl hin.out ?_) | (go_at_call 11; fail))
        refine HPUT.out.mono ?_
        rintro e w10 ⟨v10, rfl, hown10, hb10⟩
        obtain ⟨A10, c10, rfl, -, -, hrd10⟩ := own_view hown10
        have hw10 := Lib.hid (hw9.out.trans (hb10.mono hw9.out.size))
        have s1 := str_of (cap := c10) hrd10 rfl
        have s2 := str_of (cap := cap) (HBR.out.below hw10.out) HBL.out
        have hST : ((strOfNums bs).toList == (strOfNums bs).toList) = true := by rw [beq_self_eq_true]
        clear hown10 hb10 hrd10 HPUT
        go_wp2
        go_ret
        exact ⟨rfl, hw10.out⟩
    | true =>
      have hy2 : y.put.2 = 0 := by rw [Pm.Pl.put_ok hry]
      have hsm := Pm.back_same HP.out.ok HQ.out.ok hrx hry
      rw [hy2]
      have hST : Hid (((strOfNums x.put.1).toList == (strOfNums y.put.1).toList) = Pm.same x y) := by
        show _ = _
        rw [str_beq hby1.out hby2.out, hsm]
      clear hy2 hsm hry
      go_wp2_with fail
      refine region_C (fun W => Below w7.heap.size w7 W) (by kernel_rfl) ?_
      have hC : Below w7.heap.size w7 w7.drew := (Below.refl _ _).drew
      have HS3 := Lib.hid (fun W (h : Below w7.heap.size w7 W) => str_of (cap := c3) ((HR34.out.below (hk47.out.mono hz34)).below (h.mono (by omega))) rfl)
      have HS4 := Lib.hid (fun W (h : Below w7.heap.size w7 W) => str_of (cap := c4) ((HR4.out.below hk47.out).below (h.mono hz7)) rfl)
      refine anyC_take (i := 0) (v := ?v0_35) (a' := ?a0_35) rfl (by kernel_rfl) (by kernel_rfl) (by kernel_rfl) (fun _ _ _ h => h) hC ?w0_35 ?y0_35 ?f0_35 ?r0_35
      case w0_35 => kernel_rfl
      case y0_35 => (intro w hC; go_simp; try with_reducible rfl)
      case f0_35 => (go_simp; try with_reducible rfl)
      refine anyC_take (i := 1) (v := ?v1_36) (a' := ?a1_36) rfl (by kernel_rfl) (by kernel_rfl) (by kernel_rfl) (fun _ _ _ h => h) hC ?w1_36 ?y1_36 ?f1_36 ?r1_36
      case w1_36 => kernel_rfl
      case y1_36 => (intro w hC; go_simp; try with_reducible rfl)
      case f1_36 => (go_simp; try with_reducible rfl)
      refine anyC_take (i := 2) (v := ?v2_37) (a' := ?a2_37) rfl (by kernel_rfl) (by kernel_rfl) (by kernel_rfl) (fun _ _ _ h => h) hC ?w2_37 ?y2_37 ?f2_37 ?r2_37
      case w2_37 => kernel_rfl
      case y2_37 => (intro w hC; go_simp; try with_reducible rfl)
      case f2_37 => (go_simp; try with_reducible rfl)
      refine anyC_take (i := 3) (v := ?v3_38) (a' := ?a3_38) rfl (by kernel_rfl) (by kernel_rfl) (by kernel_rfl) (fun _ _ _ h => h) hC ?w3_38 ?y3_38 ?f3_38 ?r3_38
      case w3_38 => kernel_rfl
      case y3_38 => (intro w hC; go_simp; try with_reducible rfl)
      case f3_38 => (go_simp; try with_reducible rfl)
      refine anyC_take (i := 4) (v := ?v4_39) (a' := ?a4_39) rfl (by kernel_rfl) (by kernel_rfl) (by kernel_rfl) (fun _ _ _ h => h) hC ?w4_39 ?y4_39 ?f4_39 ?r4_39
      case w4_39 => kernel_rfl
      case y4_39 => (intro w hC; go_simp; try with_reducible rfl)
      case f4_39 => (go_simp; try with_reducible rfl)
      refine anyC_take (i := 5) (v := ?v5_40) (a' := ?a5_40) rfl (by kernel_rfl) (by kernel_rfl) (by kernel_rfl) (fun _ _ _ h => h) hC ?w5_40 ?y5_40 ?f5_40 ?r5_40
      case w5_40 => kernel_rfl
      case y5_40 => (intro w hC; go_simp; try with_reducible rfl)
      case f5_40 => (go_simp; try with_reducible rfl)
      refine anyC_take (i := 6) (v := ?v6_41) (a' := ?a6_41) rfl (by kernel_rfl) (by kernel_rfl) (by kernel_rfl) (fun _ _ _ h => h) hC ?w6_41 ?y6_41 ?f6_41 ?r6_41
      case w6_41 => kernel_rfl
      case y6_41 => (intro w hC; go_simp; try with_reducible rfl)
      case f6_41 => (go_simp; try with_reducible rfl)
      refine anyC_take (i := 7) (v := ?v7_42) (a' := ?a7_42) rfl (by kernel_rfl) (by kernel_rfl) (by kernel_rfl) (fun _ _ _ h => h) hC ?w7_42 ?y7_42 ?f7_42 ?r7_42
      case w7_42 => kernel_rfl
      case y7_42 => (intro w hC; go_simp; try with_reducible rfl)
      case f7_42 => (go_simp; try with_reducible rfl)
      refine anyC_take (i := 9) (v := ?v9_43) (a' := ?a9_43) rfl (by kernel_rfl) (by kernel_rfl) (by kernel_rfl) (fun _ _ _ h => h) hC ?w9_43 ?y9_43 ?f9_43 ?r9_43
      case w9_43 => kernel_rfl
      case y9_43 => (intro w hC; go_simp; try with_reducible rfl)
      case f9_43 => (go_simp; try with_reducible rfl)
      refine anyC_take (i := 8) (v := ?v8_44) (a' := ?a8_44) rfl (by kernel_rfl) (by kernel_rfl) (by kernel_rfl) (fun _ _ _ h => h) hC ?w8_44 ?y8_44 ?f8_44 ?r8_44
      case w8_44 => kernel_rfl
      case y8_44 => (intro w hC; have h4 := HS3.out w hC; go_simp; try with_reducible rfl)
      case f8_44 => (go_simp; try with_reducible rfl)
      refine anyC_take (i := 10) (v := ?v10_45) (a' := ?a10_45) rfl (by kernel_rfl) (by kernel_rfl) (by kernel_rfl) (fun _ _ _ h => h) hC ?w10_45 ?y10_45 ?f10_45 ?r10_45
      case w10_45 => kernel_rfl
      case y10_45 => (intro w hC; have h4 := HS4.out w hC; go_simp; try with_reducible rfl)
      case f10_45 => (go_simp; try with_reducible rfl)
      refine anyC_take (i := 11) (v := ?v11_46) (a' := ?a11_46) rfl (by kernel_rfl) (by kernel_rfl) (by kernel_rfl) (fun _ _ _ h => h) hC ?w11_46 ?y11_46 ?f11_46 ?r11_46
      case w11_46 => kernel_rfl
      case y11_46 => (intro w hC; have h4 := hST.out; go_simp; try with_reducible rfl)
      case f11_46 => (go_simp; try with_reducible rfl)
      refine anyC_take (i := 12) (v := ?v12_47) (a' := ?a12_47) rfl (by kernel_rfl) (by kernel_rfl) (by kernel_rfl) (fun _ _ _ h => h) hC ?w12_47 ?y12_47 ?f12_47 ?r12_47
      case w12_47 => kernel_rfl
      case y12_47 => (intro W hW; exact by refine exec_load 26 (.tmp 3) ?_ w.heap.size ?_ L _ (HRX.out _ (hC7.out.trans (hW.mono (by omega)))) Tryd.underlying26 rfl HI1.out <;> rfl)
      case f12_47 => (go_simp; try with_reducible rfl)
      refine anyC_take (i := 13) (v := ?v13_48) (a' := ?a13_48) rfl (by kernel_rfl) (by kernel_rfl) (by kernel_rfl) (fun _ _ _ h => h) hC ?w13_48 ?y13_48 ?f13_48 ?r13_48
      case w13_48 => kernel_rfl
      case y13_48 => (intro W hW; exact by refine exec_load 26 (.tmp 4) ?_ (w.heap.size + 1) ?_ M _ (HRY.out _ (hC7.out.trans (hW.mono (by omega)))) Tryd.underlying26 rfl HI2.out <;> rfl)
      case f13_48 => (go_simp; try with_reducible rfl)
      refine anyC_one (i := 14) rfl (by kernel_rfl) (by kernel_rfl) (fun K hK => ?_)
      go_simp
      have hwd7 := hw7.out.drew
      refine (HSY.out _ (HP.out.below hwd7 (Nat.le_refl _)) (HQ.out.below hwd7 (Nat.le_refl _)) hwd7.size).mono ?_
      rintro e w9 ⟨rfl, hb9⟩
      have h9 : Below w7.heap.size w7 w9 := hC.trans (hb9.mono (Nat.le_refl _))
      refine hK _ _ ⟨h9, ?_⟩
      clear hK K hb9 hC
      have hne : (Pm.same x y != Pm.same x y) = false := by simp
      generalize Pm.same x y = sb at *
      refine anyC_take (i := 15) (v := ?v15_49) (a' := ?a15_49) rfl (by kernel_rfl) (by kernel_rfl) (by kernel_rfl) (fun _ _ _ h => h) h9 ?w15_49 ?y15_49 ?f15_49 ?r15_49
      case w15_49 => kernel_rfl
      case y15_49 => (intro w hC; go_simp; try with_reducible rfl)
      case f15_49 => (go_simp; try with_reducible rfl)
      refine anyC_take (i := 16) (v := ?v16_50) (a' := ?a16_50) rfl (by kernel_rfl) (by kernel_rfl) (by kernel_rfl) (fun _ _ _ h => h) h9 ?w16_50 ?y16_50 ?f16_50 ?r16_50
      case w16_50 => kernel_rfl
      case y16_50 => (intro w hC; go_simp; try with_reducible rfl)
      case f16_50 => (go_simp; try with_reducible rfl)
      refine anyC_done (by kernel_rfl) ?_
      have hwd := Lib.hid (hw7.out.trans (h9.mono (by omega)))
      clear h9 hwd7 HS3 HS4 hST
      have HG := Lib.hid (Get_any a len cap w.heap.size bs _ (HBR.out.below hwd.out) HBL.out hlc hcm hwd.out.size hbb.out (HT.out.below hwd.out (Nat.le_refl _)))
      go_wp2_with (go_at_call 15; fail)
      refine HG.out.mono ?_
      rintro e w8 ⟨E1, p1, q1, E2, p2, q2, rfl, hpa, hb8⟩
      have hw8 := Lib.hid (hwd.out.trans (hb8.mono hwd.out.size))
      have hbx := Bx.new w8 (Pm.get bs).1 E1 p1 q1 E2 p2 q2 26
      have hwb9 := Lib.hid (hw8.out.alloc hw8.out.size (.cells (pvs (Pm.get bs).1 E1 p1 q1 E2 p2 q2).toArray 26))
      have hk9 : Below w8.heap.size w8 (w8.alloc (.cells (pvs (Pm.get bs).1 E1 p1 q1 E2 p2 q2).toArray 26)) := (Below.refl _ _).alloc (Nat.le_refl _) _
      have hpa9 := hpa.below hk9 (Nat.le_refl _)
      have HBX := Lib.hid hbx
      have HPA := Lib.hid hpa9
      have HS9 : Hid (w8.heap.size ≤ (w8.alloc (.cells (pvs (Pm.get bs).1 E1 p1 q1 E2 p2 q2).toArray 26)).heap.size) := hk9.size
      have hl := hpa.l1
      clear hb8 HG hbx hpa hpa9 hk9
      obtain ⟨hok, h | ⟨h0, h1, h2⟩⟩ := Pm.get_kept hbb.out
      · rw [h] at HBX HPA hwb9 HS9 hl ⊢
        have hp1 : p1 = 0 := hl.symm
        subst hp1
        have f0 : (w8.alloc (.cells (pvs Pm.zero E1 0 q1 E2 p2 q2).toArray 26)).cell? ⟨w8.heap.size, 0, none⟩ = some (.int .i64 0) := HBX.out.at 0 rfl
        have f10 := HBX.out.pen
        clear h hok hl
        go_wp2_with (refine wpList_store_new rfl 26 _ _ rfl _ (pvs Pm.zero E1 0 q1 E2 p2 q2).toArray rfl rfl info_plan rfl (pvs_one _ _ _ _ _ _ _) ?_)
        go_ret
        exact ⟨rfl, hwb9.out⟩
      · rw [h0]
        have HPUT := Lib.hid (Put_any (Pm.get bs).1 E1 p1 q1 E2 p2 q2 w8.heap.size _ HPA.out HS9.out (HT.out.below hwb9.out (Nat.le_refl _)))
        rw [h2, pv_eq] at HPUT
        rw [pv_eq]
        have HRG : Hid ((w8.alloc (.cells (pvs (Pm.get bs).1 E1 p1 q1 E2 p2 q2).toArray 26)).rangeAt w8.heap.size 0 (pvs (Pm.get bs).1 E1 p1 q1 E2 p2 q2)) := HBX.out
        have hone := Lib.hid (pvs_one (Pm.get bs).1 E1 p1 q1 E2 p2 q2)
        have hin : Hid ((Tryd.prog.info? 26).map (·.size) = some (pvs (Pm.get bs).1 E1 p1 q1 E2 p2 q2).length) := info_plan
        have hin2 : Hid ((Tryd.prog.info? 26).map (·.size) = some (pvs (Pm.get bs).1 E1 p1 q1 E2 p2 q2).toArray.size) := info_plan
        have hsz : Hid (12 = (pvs (Pm.get bs).1 E1 p1 q1 E2 p2 q2).toArray.size) := rfl
        clear h0 h1 h2 hok hl HBX HPA
        generalize pvs (Pm.get bs).1 E1 p1 q1 E2 p2 q2 = R at *
        go_wp2_with (first | (refine wpList_store_new rfl 26 _ _ rfl _ R.toArray rfl rfl hin2.out hsz.out hone.out ?_) | (refine wpList_load_mid rfl 26 _ rfl w8.heap.size 0 rfl R _ HRG.out Tryd.underlying26 rfl hin.out ?_) | (go_at_call 11; fail))
        refine HPUT.out.mono ?_
        rintro e w10 ⟨v10, rfl, hown10, hb10⟩
        obtain ⟨A10, c10, rfl, -, -, hrd10⟩ := own_view hown10
        have hw10 := Lib.hid (hwb9.out.trans (hb10.mono hwb9.out.size))
        have s1 := str_of (cap := c10) hrd10 rfl
        have s2 := str_of (cap := cap) (HBR.out.below hw10.out) HBL.out
        have hST : ((strOfNums bs).toList == (strOfNums bs).toList) = true := by rw [beq_self_eq_true]
        clear hown10 hb10 hrd10 HPUT
        go_wp2
        go_ret
        exact ⟨rfl, hw10.out⟩
end Go.Proofs.YtdcdlnmgbgeeeaaDoor
