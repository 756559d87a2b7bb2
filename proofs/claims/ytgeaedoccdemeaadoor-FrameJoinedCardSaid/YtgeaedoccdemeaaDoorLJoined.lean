/- FrameJoined, walked. -/
import Derived.Test.YtgeaedoccdemeaaDoorFj
namespace Go.Proofs.YtgeaedoccdemeaaDoor
open Go.RowKit Go.Shelf

theorem Bods.one {w : World} {B : Nat} {vs : List Value} {bs : List (List Int)} (h : Bods w B vs bs) : ∀ u ∈ vs, u.oneCell' = true := fun u hu => by
  obtain ⟨j, hj, rfl⟩ := List.mem_iff_getElem.1 hu
  obtain ⟨A, c, e, -⟩ := h.2 j vs[j] (bs[j]'(by rw [← h.1]; exact hj)) (List.getElem?_eq_getElem hj) (List.getElem?_eq_getElem _)
  rw [e]
  rfl

theorem Bods.app {w : World} {B : Nat} {vs us : List Value} {bs cs : List (List Int)} (h : Bods w B vs bs) (k : Bods w B us cs) : Bods w B (vs ++ us) (bs ++ cs) := by
  refine ⟨by rw [List.length_append, List.length_append, h.1, k.1], fun j v b hv hb => ?_⟩
  by_cases hj : j < bs.length
  · rw [List.getElem?_append_left (by rw [h.1]; exact hj)] at hv
    rw [List.getElem?_append_left hj] at hb
    exact h.2 j v b hv hb
  · rw [List.getElem?_append_right (by rw [h.1]; omega), h.1] at hv
    rw [List.getElem?_append_right (by omega)] at hb
    exact k.2 _ v b hv hb

/-- all of both, where the first ones are whole -/
theorem al_join {as' bs : List Int} (h : Fm.By as') (he : (Fm.cat (Fm.al as')).length = as'.length) : Fm.al (as' ++ bs) = Fm.al as' ++ Fm.al bs := by
  obtain ⟨h1, h2, h3, -⟩ := Fm.al_ok as'.length as' (Nat.le_refl _) h
  rw [he, List.drop_length, List.append_nil] at h3
  conv => lhs; rw [h3]
  exact Fm.al_cat _ _ (fun f hf => (h1 f hf).1)

set_option maxRecDepth 100000 in
set_option maxHeartbeats 8000000 in
theorem joined_walk (a0 : Option Addr) (len0 cap0 : Nat) (z0 : List Int) (a1 : Option Addr) (len1 cap1 : Nat) (z1 : List Int) (w : World) (w0 : RowOf .u8 w a0 len0 cap0 z0) (w1 : RowOf .u8 w a1 len1 cap1 z1)
    (_s0 : cap0 * 1 ≤ 140737488351232) (_s1 : cap1 * 1 ≤ 140737488351232) (t0 : TabAt w) :
    Calls Tryd.prog 8 #[.slice a0 len0 cap0, .slice a1 len1 cap1] w fun e w' => e = .returned (.bool true) ∧ Below w.heap.size w w' := by
  obtain ⟨xs, hn0, hc0, hm0, hr0, hw0⟩ := row_rd w0
  obtain ⟨ys, hn1, hc1, hm1, hr1, hw1⟩ := row_rd w1
  have HB0 : Hid (Fm.By xs) := wf_u8 hw0
  have HB1 : Hid (Fm.By ys) := wf_u8 hw1
  have HN0 := Lib.hid hn0
  have HN1 := Lib.hid hn1
  have HR0 := Lib.hid hr0
  have HR1 := Lib.hid hr1
  clear w0 w1 hw0 hw1 hn0 hn1 hr0 hr1
  by_cases g0 : 200000 < len0
  · have k0 : decide ((200000 : Int) < (len0 : Int)) = true := by simp; omega
    go_enter Tryd.func8, Tryd.ntmps8
    go_wp2_with (go_at_call 10; refine (head_any _ t0.tab).mono ?_; rintro e w1 ⟨rfl, hb1⟩)
    go_ret
    exact ⟨rfl, hb1⟩
  have k0 : decide ((200000 : Int) < (len0 : Int)) = false := by simp; omega
  by_cases g1 : 200000 < len1
  · have k1 : decide ((200000 : Int) < (len1 : Int)) = true := by simp; omega
    go_enter Tryd.func8, Tryd.ntmps8
    go_wp2_with (go_at_call 10; refine (head_any _ t0.tab).mono ?_; rintro e w1 ⟨rfl, hb1⟩)
    go_ret
    exact ⟨rfl, hb1⟩
  have k1 : decide ((200000 : Int) < (len1 : Int)) = false := by simp; omega
  obtain ⟨i0, hi, hz0, hz1, hz2⟩ := info_parts info_u8
  obtain ⟨ti, hti, hy0, hy1, hy2⟩ := info_parts_sl
  obtain ⟨fa, hfa⟩ : ∃ fs, fs = Fm.al xs := ⟨_, rfl⟩
  obtain ⟨fb, hfb⟩ : ∃ fs, fs = Fm.al ys := ⟨_, rfl⟩
  have la := al_len HB0.out
  have lb := al_len HB1.out
  have bya := al_by HB0.out
  have byb := al_by HB1.out
  have HJ := Lib.hid (fun he => al_join (bs := ys) HB0.out he)
  rw [← hfa, HN0.out] at la
  rw [← hfb, HN1.out] at lb
  rw [← hfa] at bya HJ
  rw [← hfb] at byb HJ
  have HFA := Lib.hid hfa
  have HFB := Lib.hid hfb
  have HYA := Lib.hid bya
  have HYB := Lib.hid byb
  clear hfa hfb bya byb
  go_enter Tryd.func8, Tryd.ntmps8
  go_wp2_with (go_at_call 10; refine (head_any _ t0.tab).mono ?_; rintro e w1 ⟨rfl, hb1⟩)
  have HW1 := Lib.hid hb1
  clear hb1
  refine (All_any a0 len0 cap0 w.heap.size xs w1 (HR0.out.below HW1.out) HN0.out hc0 hm0 HW1.out.size HB0.out (t0.tab.below HW1.out (Nat.le_refl _)) (by omega)).mono ?_
  rw [← HFA.out]
  rintro e w2 ⟨ka, sa, rfl, accA, hb2⟩
  have HAA := Lib.hid accA
  obtain ⟨Aka, cka, -, Asa, csa, rfl, rfl, -⟩ := accA.outF
  have HW2 := Lib.hid (HW1.out.trans (hb2.mono HW1.out.size))
  clear hb2 accA
  go_wp2_with (go_at_call 15; fail)
  refine (All_any a1 len1 cap1 w.heap.size ys w2 (HR1.out.below HW2.out) HN1.out hc1 hm1 HW2.out.size HB1.out (t0.tab.below HW2.out (Nat.le_refl _)) (by omega)).mono ?_
  rw [← HFB.out]
  rintro e w3 ⟨kb, sb, rfl, accB, hb3⟩
  have HAB := Lib.hid accB
  obtain ⟨Akb, ckb, -, Asb, csb, rfl, rfl, -⟩ := accB.outF
  have HAA3 := Lib.hid (HAA.out.below hb3)
  have HW3 := Lib.hid (HW2.out.trans (hb3.mono HW2.out.size))
  clear hb3 accB
  obtain ⟨pa, hpa⟩ : ∃ p, p = (Fm.cat fa).length := ⟨_, rfl⟩
  obtain ⟨pb, hpb⟩ : ∃ p, p = (Fm.cat fb).length := ⟨_, rfl⟩
  rw [← hpa] at la HJ
  rw [← hpa, ← hpb]
  rw [← hpb] at lb
  rw [HN0.out] at HJ
  have HPA := Lib.hid hpa
  have HPB := Lib.hid hpb
  clear hpa hpb
  by_cases he : pa = len0
  case neg =>
    have kne : ((pa : Int) != (len0 : Int)) = true := by rw [bne_iff_ne]; omega
    clear he
    go_wp2_with fail
    go_ret
    exact ⟨rfl, HW3.out⟩
  have HAL := Lib.hid (HJ.out he)
  have HCL : Hid ((Fm.cat (Fm.al (xs ++ ys))).length = pa + pb) := by
    show _ = _
    rw [HAL.out, Fm.cat_app, List.length_append, ← HPA.out, ← HPB.out]
  subst he
  have HXY : Hid (Fm.By (xs ++ ys)) := HB0.out.app HB1.out
  have HL : Hid ((xs ++ ys).length = pa + len1) := by
    show _ = _
    rw [List.length_append, HN0.out, HN1.out]
  have hmade := World.ownsRow_made (base := w3.heap.size) (e := 5) (size := 1) w3 #[] 0 (Nat.le_refl _) (by unfold maxLen; omega) (by simp)
  have hs3 := HW3.out.size
  go_wp2_with (first
    | (at_builtin; refine wpList_app rfl _ _ 22 rfl w3.heap.size 5 i0 (.int .u8 0) 1 Tryd.underlying22 hi hz0 hz1 hz2 rfl _ _ _ rfl hmade w.heap.size a0 pa cap0 (u8s xs) rfl (by rw [List.length_map]; exact HN0.out) ((HR0.out.below HW3.out).alloc hs3 _) (oneCell_ints _ _) (by unfold maxLen; omega) (by omega) (by simp) ?_; intro v4 w4 hown4 hgrow4 _; have hb4 := below_app ((Below.refl w3.heap.size w3).alloc (Nat.le_refl _) _) hmade hgrow4 (by simp); rw [Nat.zero_add, List.nil_append] at hown4; obtain ⟨A4, c4, rfl, -, -, -⟩ := own_view hown4)
    | (at_builtin; refine wpList_app rfl _ _ 22 rfl w3.heap.size 5 i0 (.int .u8 0) 1 Tryd.underlying22 hi hz0 hz1 hz2 rfl _ _ _ rfl hown4 w.heap.size a1 len1 cap1 (u8s ys) rfl (by rw [List.length_map]; exact HN1.out) ((HR1.out.below HW3.out).below (hb4.mono hs3)) (oneCell_ints _ _) (by unfold maxLen; omega) (by omega) hb4.size ?_; intro v5 w5 hown5 hgrow5 _; have hb5 := below_app hb4 hown4 hgrow5 hb4.size; obtain ⟨A5, c5, rfl, hcp5, hcm5, hrd5⟩ := own_view hown5)
    | (go_at_call 15; fail))
  rw [← List.map_append] at hrd5
  have HW5 := Lib.hid (HW3.out.trans (hb5.mono hs3))
  have HR5 := Lib.hid hrd5
  have HB35 := Lib.hid hb5
  clear hmade hown4 hgrow4 hb4 hown5 hgrow5 hb5 hrd5
  refine (All_any A5 (pa + len1) c5 w5.heap.size (xs ++ ys) w5 HR5.out HL.out hcp5 hcm5 (Nat.le_refl _) HXY.out (t0.tab.below HW5.out (Nat.le_refl _)) (by omega)).mono ?_
  rw [HCL.out, HAL.out]
  rintro e w6 ⟨kx, sx, rfl, accX, hb6⟩
  have HW6 := Lib.hid (HW5.out.trans (hb6.mono HW5.out.size))
  have HB36 := Lib.hid (HB35.out.trans (hb6.mono HB35.out.size))
  obtain ⟨Akx, ckx, vx, Asx, csx, rfl, rfl, -, ⟨nx1, nx2⟩, rkx, rsx, bsx⟩ := accX.outF
  obtain ⟨Bka, dka, va, Bsa, dsa, ea1, ea2, ⟨na1, na2⟩, ⟨na3, na4⟩, rka, rsa, bsa⟩ := (HAA3.out.below HB36.out).outF
  obtain ⟨Bkb, dkb, vb, Bsb, dsb, eb1, eb2, ⟨nb1, nb2⟩, ⟨nb3, nb4⟩, rkb, rsb, bsb⟩ := (HAB.out.below HB36.out).outF
  cases ea1
  cases ea2
  cases eb1
  cases eb2
  have HX := Lib.hid (And.intro rkx (And.intro rsx bsx))
  have HA := Lib.hid (And.intro rka (And.intro rsa bsa))
  have HBb := Lib.hid (And.intro rkb (And.intro rsb bsb))
  clear rkx rsx bsx rka rsa bsa rkb rsb bsb accX hb6
  rw [List.length_append] at nx1
  rw [List.length_append]
  go_wp2_with fail
  refine region_C (fun w' => Below w6.heap.size w6 w') (by kernel_rfl) ?_
  obtain ⟨w7, hw7⟩ : ∃ w7, w7 = w6.drew := ⟨_, rfl⟩
  have hC : Below w6.heap.size w6 w7 := by rw [hw7]; exact below_drawn (Below.refl _ _) 1
  rw [← hw7]
  clear hw7
  have HKX : Hid (∀ w', Below w6.heap.size w6 w' → (convert 22 9 (.slice Akx (fa.length + fb.length) ckx)).run Tryd.prog w' = .ok (.string (strOfNums ((fa ++ fb).map (·.1)))) w') := fun w' h => str_of (HX.out.1.below h) (by rw [List.length_map, List.length_append])
  refine anyC_take (i := 0) (v := ?v0_43) (a' := ?a0_43) rfl (by kernel_rfl) (by kernel_rfl) (by kernel_rfl) (fun _ _ _ h => h) hC ?w0_43 ?y0_43 ?f0_43 ?r0_43
  case w0_43 => kernel_rfl
  case y0_43 => (intro w hC; go_simp; try with_reducible rfl)
  case f0_43 => (go_simp; try with_reducible rfl)
  refine anyC_take (i := 1) (v := ?v1_44) (a' := ?a1_44) rfl (by kernel_rfl) (by kernel_rfl) (by kernel_rfl) (fun _ _ _ h => h) hC ?w1_44 ?y1_44 ?f1_44 ?r1_44
  case w1_44 => kernel_rfl
  case y1_44 => (intro w hC; go_simp; try with_reducible rfl)
  case f1_44 => (go_simp; try with_reducible rfl)
  refine anyC_take (i := 2) (v := ?v2_45) (a' := ?a2_45) rfl (by kernel_rfl) (by kernel_rfl) (by kernel_rfl) (fun _ _ _ h => h) hC ?w2_45 ?y2_45 ?f2_45 ?r2_45
  case w2_45 => kernel_rfl
  case y2_45 => (intro w hC; go_simp; try with_reducible rfl)
  case f2_45 => (go_simp; try with_reducible rfl)
  refine anyC_take (i := 3) (v := ?v3_46) (a' := ?a3_46) rfl (by kernel_rfl) (by kernel_rfl) (by kernel_rfl) (fun _ _ _ h => h) hC ?w3_46 ?y3_46 ?f3_46 ?r3_46
  case w3_46 => kernel_rfl
  case y3_46 => (intro w hC; have h4 := HKX.out w hC; go_simp; try with_reducible rfl)
  case f3_46 => (go_simp; try with_reducible rfl)
  refine anyC_take (i := 5) (v := ?v5_47) (a' := ?a5_47) rfl (by kernel_rfl) (by kernel_rfl) (by kernel_rfl) (fun _ _ _ h => h) hC ?w5_47 ?y5_47 ?f5_47 ?r5_47
  case w5_47 => kernel_rfl
  case y5_47 => (intro w hC; go_simp; try with_reducible rfl)
  case f5_47 => (go_simp; try with_reducible rfl)
  refine anyC_take (i := 7) (v := ?v7_48) (a' := ?a7_48) rfl (by kernel_rfl) (by kernel_rfl) (by kernel_rfl) (fun _ _ _ h => h) hC ?w7_48 ?y7_48 ?f7_48 ?r7_48
  case w7_48 => kernel_rfl
  case y7_48 => (intro w hC; go_simp; try with_reducible rfl)
  case f7_48 => (go_simp; try with_reducible rfl)
  have hwp : IntKind.i64.wrap ((pa : Int) + (pb : Int)) = (pa : Int) + (pb : Int) := IntWalk.i64_in _ (by omega)
  have hva : va.length = fa.length := by have := HA.out.2.2.1; rwa [List.length_map] at this
  have hvb : vb.length = fb.length := by have := HBb.out.2.2.1; rwa [List.length_map] at this
  refine anyC_one (i := 4) rfl (by kernel_rfl) (by kernel_rfl) (fun K hK => ?_)
  go_simp
  have hm8 := World.ownsRow_made (base := w7.heap.size) (e := 5) (size := 1) w7 #[] 0 (Nat.le_refl _) (by unfold maxLen; omega) (by simp)
  have hC8 := hC.alloc hC.size (.cells #[] 5)
  refine hK _ _ ⟨hC8, ?_⟩
  refine anyC_one (i := 6) rfl (by kernel_rfl) (by kernel_rfl) (fun K hK => ?_)
  refine op_app _ _ 22 rfl w7.heap.size 5 i0 (.int .u8 0) 1 Tryd.underlying22 hi hz0 hz1 hz2 rfl _ _ _ rfl hm8 w6.heap.size Aka fa.length cka (u8s (fa.map (·.1))) rfl (by rw [List.length_map, List.length_map]) (HA.out.1.below hC8) (oneCell_ints _ _) (by unfold maxLen; omega) (by omega) (by simp) ?_
  intro v9 w9 hown9 hgrow9
  have hC9 := below_app hC8 (own_mono hm8 hC.size) hgrow9 hC8.size
  have hs9 := hgrow9.size
  rw [World.size_alloc] at hs9
  rw [Nat.zero_add, List.nil_append] at hown9
  refine hK _ _ ⟨hC9, ?_⟩
  refine anyC_one (i := 8) rfl (by kernel_rfl) (by kernel_rfl) (fun K hK => ?_)
  refine op_app _ _ 22 rfl w7.heap.size 5 i0 (.int .u8 0) 1 Tryd.underlying22 hi hz0 hz1 hz2 rfl _ _ _ rfl hown9 w6.heap.size Akb fb.length ckb (u8s (fb.map (·.1))) rfl (by rw [List.length_map, List.length_map]) (HBb.out.1.below hC9) (oneCell_ints _ _) (by unfold maxLen; omega) (by omega) (by omega) ?_
  intro v10 w10 hown10 hgrow10
  have hC10 := below_app hC9 (own_mono hown9 hC.size) hgrow10 hC9.size
  obtain ⟨A10, c10, rfl, -, -, hrd10⟩ := own_view hown10
  rw [← List.map_append, ← List.map_append] at hrd10
  have hcv := str_of (n := fa.length + fb.length) (cap := c10) hrd10 (by rw [List.length_map, List.length_append])
  refine hK _ _ ⟨hC10, ?_⟩
  refine anyC_one (i := 9) rfl (by kernel_rfl) (by kernel_rfl) (fun K hK => ?_)
  go_simp
  refine hK _ _ ⟨hC10, ?_⟩
  clear hm8 hC8 hC9 hown9 hgrow9 hown10 hgrow10 hrd10 hcv hs9 hC
  refine anyC_take (i := 10) (v := ?v10_49) (a' := ?a10_49) rfl (by kernel_rfl) (by kernel_rfl) (by kernel_rfl) (fun _ _ _ h => h) hC10 ?w10_49 ?y10_49 ?f10_49 ?r10_49
  case w10_49 => kernel_rfl
  case y10_49 => (intro w hC; go_simp; try with_reducible rfl)
  case f10_49 => (go_simp; try with_reducible rfl)
  refine anyC_take (i := 11) (v := ?v11_50) (a' := ?a11_50) rfl (by kernel_rfl) (by kernel_rfl) (by kernel_rfl) (fun _ _ _ h => h) hC10 ?w11_50 ?y11_50 ?f11_50 ?r11_50
  case w11_50 => kernel_rfl
  case y11_50 => (intro w hC; go_simp; try with_reducible rfl)
  case f11_50 => (go_simp; try with_reducible rfl)
  refine anyC_take (i := 12) (v := ?v12_51) (a' := ?a12_51) rfl (by kernel_rfl) (by kernel_rfl) (by kernel_rfl) (fun _ _ _ h => h) hC10 ?w12_51 ?y12_51 ?f12_51 ?r12_51
  case w12_51 => kernel_rfl
  case y12_51 => (intro w hC; go_simp; try with_reducible rfl)
  case f12_51 => (go_simp; try with_reducible rfl)
  refine anyC_take (i := 13) (v := ?v13_52) (a' := ?a13_52) rfl (by kernel_rfl) (by kernel_rfl) (by kernel_rfl) (fun _ _ _ h => h) hC10 ?w13_52 ?y13_52 ?f13_52 ?r13_52
  case w13_52 => kernel_rfl
  case y13_52 => (intro w hC; go_simp; try with_reducible rfl)
  case f13_52 => (go_simp; try with_reducible rfl)
  refine anyC_take (i := 15) (v := ?v15_53) (a' := ?a15_53) rfl (by kernel_rfl) (by kernel_rfl) (by kernel_rfl) (fun _ _ _ h => h) hC10 ?w15_53 ?y15_53 ?f15_53 ?r15_53
  case w15_53 => kernel_rfl
  case y15_53 => (intro w hC; go_simp; try with_reducible rfl)
  case f15_53 => (go_simp; try with_reducible rfl)
  refine anyC_take (i := 17) (v := ?v17_54) (a' := ?a17_54) rfl (by kernel_rfl) (by kernel_rfl) (by kernel_rfl) (fun _ _ _ h => h) hC10 ?w17_54 ?y17_54 ?f17_54 ?r17_54
  case w17_54 => kernel_rfl
  case y17_54 => (intro w hC; go_simp; try with_reducible rfl)
  case f17_54 => (go_simp; try with_reducible rfl)
  refine anyC_one (i := 14) rfl (by kernel_rfl) (by kernel_rfl) (fun K hK => ?_)
  go_simp
  have hm11 := World.ownsRow_made (base := w10.heap.size) (e := 22) (size := 1) w10 #[] 0 (Nat.le_refl _) (by unfold maxLen; omega) (by simp)
  have hC11 := hC10.alloc hC10.size (.cells #[] 22)
  refine hK _ _ ⟨hC11, ?_⟩
  refine anyC_one (i := 16) rfl (by kernel_rfl) (by kernel_rfl) (fun K hK => ?_)
  refine op_app _ _ 30 rfl w10.heap.size 22 ti (.slice none 0 0) 24 Tryd.underlying30 hti hy0 hy1 hy2 rfl _ _ _ rfl hm11 w6.heap.size Asa fa.length csa va rfl hva (HA.out.2.1.below hC11) HA.out.2.2.one (by unfold maxLen; omega) (by omega) (by simp) ?_
  intro v12 w12 hown12 hgrow12
  have hC12 := below_app hC11 (own_mono hm11 hC10.size) hgrow12 hC11.size
  have hs12 := hgrow12.size
  rw [World.size_alloc] at hs12
  rw [Nat.zero_add, List.nil_append] at hown12
  refine hK _ _ ⟨hC12, ?_⟩
  refine anyC_one (i := 18) rfl (by kernel_rfl) (by kernel_rfl) (fun K hK => ?_)
  refine op_app _ _ 30 rfl w10.heap.size 22 ti (.slice none 0 0) 24 Tryd.underlying30 hti hy0 hy1 hy2 rfl _ _ _ rfl hown12 w6.heap.size Asb fb.length csb vb rfl hvb (HBb.out.2.1.below hC12) HBb.out.2.2.one (by unfold maxLen; omega) (by omega) (by omega) ?_
  intro v13 w13 hown13 hgrow13
  have hC13 := below_app hC12 (own_mono hown12 hC10.size) hgrow13 hC12.size
  obtain ⟨A13, c13, rfl, -, -, hrd13⟩ := own_view hown13
  have hby : ∀ b ∈ (fa ++ fb).map (·.2), Fm.By b := fun b hb => by
    rw [List.map_append] at hb
    rcases List.mem_append.1 hb with h | h
    · exact HYA.out.2 b h
    · exact HYB.out.2 b h
  have hbods : Bods w13 w6.heap.size (va ++ vb) ((fa ++ fb).map (·.2)) := by
    rw [List.map_append]
    exact (HA.out.2.2.app HBb.out.2.2).below hC13
  have HSA := Lib.hid (Same_any Asx A13 (fa.length + fb.length) (fa.length + fb.length) csx c13 _ _ vx (va ++ vb) ((fa ++ fb).map (·.2)) ((fa ++ fb).map (·.2)) w13 (HX.out.2.1.below hC13) hrd13 (HX.out.2.2.below hC13) (hbods.more hC13.size) (by rw [List.length_map, List.length_append]) (by rw [List.length_map, List.length_append]) (by unfold maxLen; omega) hby hby)
  rw [decide_eq_true (rfl : (fa ++ fb).map (·.2) = (fa ++ fb).map (·.2))] at HSA
  refine hK _ _ ⟨hC13, ?_⟩
  clear hm11 hC11 hC12 hown12 hgrow12 hown13 hgrow13 hrd13 hs12 hby hbods
  refine anyC_one (i := 19) rfl (by kernel_rfl) (by kernel_rfl) (fun K hK => ?_)
  go_simp
  go_wp2_with (go_at_call 17; fail)
  refine HSA.out.mono ?_
  rintro e w14 ⟨rfl, nd, rfl⟩
  go_wp2_with fail
  have hC14 := below_drawn hC13 nd
  refine ⟨hC14, ?_⟩
  refine anyC_take (i := 20) (v := ?v20_55) (a' := ?a20_55) rfl (by kernel_rfl) (by kernel_rfl) (by kernel_rfl) (fun _ _ _ h => h) hC14 ?w20_55 ?y20_55 ?f20_55 ?r20_55
  case w20_55 => kernel_rfl
  case y20_55 => (intro w hC; go_simp; try with_reducible rfl)
  case f20_55 => (go_simp; try with_reducible rfl)
  refine anyC_take (i := 21) (v := ?v21_56) (a' := ?a21_56) rfl (by kernel_rfl) (by kernel_rfl) (by kernel_rfl) (fun _ _ _ h => h) hC14 ?w21_56 ?y21_56 ?f21_56 ?r21_56
  case w21_56 => kernel_rfl
  case y21_56 => (intro w hC; go_simp; try with_reducible rfl)
  case f21_56 => (go_simp; try with_reducible rfl)
  refine anyC_take (i := 22) (v := ?v22_57) (a' := ?a22_57) rfl (by kernel_rfl) (by kernel_rfl) (by kernel_rfl) (fun _ _ _ h => h) hC14 ?w22_57 ?y22_57 ?f22_57 ?r22_57
  case w22_57 => kernel_rfl
  case y22_57 => (intro w hC; go_simp; try with_reducible rfl)
  case f22_57 => (go_simp; try with_reducible rfl)
  refine anyC_take (i := 23) (v := ?v23_58) (a' := ?a23_58) rfl (by kernel_rfl) (by kernel_rfl) (by kernel_rfl) (fun _ _ _ h => h) hC14 ?w23_58 ?y23_58 ?f23_58 ?r23_58
  case w23_58 => kernel_rfl
  case y23_58 => (intro w hC; go_simp; try with_reducible rfl)
  case f23_58 => (go_simp; try with_reducible rfl)
  refine anyC_take (i := 24) (v := ?v24_59) (a' := ?a24_59) rfl (by kernel_rfl) (by kernel_rfl) (by kernel_rfl) (fun _ _ _ h => h) hC14 ?w24_59 ?y24_59 ?f24_59 ?r24_59
  case w24_59 => kernel_rfl
  case y24_59 => (intro w hC; go_simp; try with_reducible rfl)
  case f24_59 => (go_simp; try with_reducible rfl)
  refine anyC_take (i := 25) (v := ?v25_60) (a' := ?a25_60) rfl (by kernel_rfl) (by kernel_rfl) (by kernel_rfl) (fun _ _ _ h => h) hC14 ?w25_60 ?y25_60 ?f25_60 ?r25_60
  case w25_60 => kernel_rfl
  case y25_60 => (intro w hC; go_simp; try with_reducible rfl)
  case f25_60 => (go_simp; try with_reducible rfl)
  refine anyC_take (i := 26) (v := ?v26_61) (a' := ?a26_61) rfl (by kernel_rfl) (by kernel_rfl) (by kernel_rfl) (fun _ _ _ h => h) hC14 ?w26_61 ?y26_61 ?f26_61 ?r26_61
  case w26_61 => kernel_rfl
  case y26_61 => (intro w hC; go_simp; try with_reducible rfl)
  case f26_61 => (go_simp; try with_reducible rfl)
  refine anyC_take (i := 27) (v := ?v27_62) (a' := ?a27_62) rfl (by kernel_rfl) (by kernel_rfl) (by kernel_rfl) (fun _ _ _ h => h) hC14 ?w27_62 ?y27_62 ?f27_62 ?r27_62
  case w27_62 => kernel_rfl
  case y27_62 => (intro w hC; go_simp; try with_reducible rfl)
  case f27_62 => (go_simp; try with_reducible rfl)
  refine anyC_take (i := 28) (v := ?v28_63) (a' := ?a28_63) rfl (by kernel_rfl) (by kernel_rfl) (by kernel_rfl) (fun _ _ _ h => h) hC14 ?w28_63 ?y28_63 ?f28_63 ?r28_63
  case w28_63 => kernel_rfl
  case y28_63 => (intro w hC; go_simp; try with_reducible rfl)
  case f28_63 => (go_simp; try with_reducible rfl)
  refine anyC_done (by kernel_rfl) ?_
  go_wp2
  go_ret
  exact ⟨rfl, HW6.out.trans (hC14.mono HW6.out.size)⟩
end Go.Proofs.YtgeaedoccdemeaaDoor
