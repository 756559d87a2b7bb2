/- A message's body and its frame: the program's. -/
import Derived.Test.YtpgfnhdaembhmaaDoorMb
import Derived.Test.YtpgfnhdaembhmaaDoorMc
namespace Go.Proofs.YtpgfnhdaembhmaaDoor
open Go.RowKit Go.Shelf

theorem flat5 (a b c d e : List Int) : [a, b, c, d, e].flatten = a ++ (b ++ (c ++ (d ++ e))) := by simp
theorem cell_new (w : World) (vs : List Value) (t : TypeId) : Rd (w.alloc (.cells vs.toArray t)) (w.heap.size + 1) (some ⟨w.heap.size, 0, none⟩) vs := Rd.new w (w.heap.size + 1) vs t (0, 0) (by omega)

set_option maxRecDepth 100000 in
set_option maxHeartbeats 4000000 in
theorem MBody_any (x : Mm.Ms) (l : Lo) (B : Nat) (w : World) (hp : MsAt w B x l) (hB : B ≤ w.heap.size) (ht : Tab w) :
    Calls Tryd.prog 12 #[mv x l] w fun e w' => ∃ v, e = .returned (.tuple #[.int .u8 x.bodyE.1, v, .int .i64 x.bodyE.2.2]) ∧ w'.ownsRow w.heap.size 5 1 v x.bodyE.2.1.length (u8s x.bodyE.2.1) ∧ Below w.heap.size w w' := by
  have hx1 := Mx.new w x l 30
  have hb1 : Hid (Below w.heap.size w (w.alloc (.cells (mvs x l).toArray 30))) := (Below.refl _ w).alloc (Nat.le_refl _) _
  have hz1 : (w.alloc (.cells (mvs x l).toArray 30)).heap.size = w.heap.size + 1 := World.size_alloc ..
  have HX := Lib.hid (fun (W : World) (h : Below (w.heap.size + 1) (w.alloc (.cells (mvs x l).toArray 30)) W) => (hx1.below h (Nat.lt_succ_self _) : Mx W w.heap.size x l))
  have HR : Hid (∀ (W : World), Below (w.heap.size + 1) (w.alloc (.cells (mvs x l).toArray 30)) W → W.rangeAt w.heap.size 0 (mvs x l)) := HX.out
  have hC1 := Lib.hid (Below.refl (w.heap.size + 1) (w.alloc (.cells (mvs x l).toArray 30)))
  have HRI := Lib.hid (MRight_any x l B (w.alloc (.cells (mvs x l).toArray 30)) (hp.below hb1.out hB) (by rw [hz1]; omega) (ht.below hb1.out (Nat.le_refl _)))
  have HNU := Lib.hid (fun W => mnums_any x l W hp.ok)
  have HPT := Lib.hid (fun W h1 h2 h3 => planText_any x l B W h1 h2 h3)
  have hlen := Lib.hid (info_mv x l)
  have HP := Lib.hid hp
  have HT := Lib.hid ht
  unfold mv at HRI HNU HPT ⊢
  generalize mvs x l = L at *
  clear hx1 hp ht
  go_enter Tryd.func12, Tryd.ntmps12
  go_wp2_with (first | (refine wpList_load_mid rfl 30 _ rfl w.heap.size 0 rfl L _ (HR.out _ hC1.out) Tryd.underlying30 rfl hlen.out ?_) | (go_at_call 14; fail))
  refine HRI.out.mono ?_
  rintro e w2 ⟨rfl, hb2'⟩
  have hC2 : Hid (Below (w.heap.size + 1) (w.alloc (.cells L.toArray 30)) w2) := hb2'.mono (by rw [hz1]; exact Nat.le_refl _)
  clear hb2' HRI
  cases hr : x.right with
  | false =>
    have HE := Lib.hid (Mm.bodyE_no hr)
    clear hr
    go_wp2
    go_ret3
    rw [HE.out]
    exact ⟨_, rfl, own_none, hb1.out.trans (hC2.out.mono (Nat.le_succ _))⟩
  | true =>
    have HE := Lib.hid (Mm.bodyE_ok hr)
    obtain ⟨k1, k2, -, -, -, -, -, -, i3, s64, p1024⟩ := Mm.right_iff.1 hr
    have hk8 : IntKind.u8.wrap x.k = x.k := by simp [IntKind.wrap, IntKind.signed, IntKind.bits]; omega
    have hbl := Lib.hid (Mm.body_len hr)
    clear hr k1 k2
    go_wp2_with (first | (refine wpList_load_mid rfl 30 _ rfl w.heap.size 0 rfl L _ (HR.out _ hC2.out) Tryd.underlying30 rfl hlen.out ?_) | (go_at_call 24; fail))
    refine (HNU.out _).mono ?_
    rintro e w3 ⟨rfl, hb3'⟩
    have hz2 := hC2.out.size
    rw [hz1] at hz2
    have hC3 : Hid (Below (w.heap.size + 1) (w.alloc (.cells L.toArray 30)) w3) := hC2.out.trans (hb3'.mono hz2)
    have hz3 := Nat.le_trans hz2 hb3'.size
    clear hb3'
    go_wp2_with (first | (refine wpList_store_new rfl 49 _ _ rfl _ (i64s x.nums).toArray rfl rfl info_mnums rfl (i64s_one _) ?_))
    have hz4 : (w3.alloc (.cells (i64s x.nums).toArray 49)).heap.size = w3.heap.size + 1 := World.size_alloc ..
    have hC4 : Hid (Below (w.heap.size + 1) (w.alloc (.cells L.toArray 30)) (w3.alloc (.cells (i64s x.nums).toArray 49))) := hC3.out.alloc hz3 _
    have HG := Lib.hid (fun (W : World) (h : Below (w3.heap.size + 1) (w3.alloc (.cells (i64s x.nums).toArray 49)) W) => hC4.out.trans (h.mono (Nat.le_succ_of_le hz3)))
    have HGW := Lib.hid (fun (W : World) (h : Below (w3.heap.size + 1) (w3.alloc (.cells (i64s x.nums).toArray 49)) W) => hb1.out.trans ((HG.out W h).mono (Nat.le_succ _)))
    have hrn : Hid (Rd (w3.alloc (.cells (i64s x.nums).toArray 49)) (w3.heap.size + 1) (some ⟨w3.heap.size, 0, none⟩) (i64s x.nums)) := cell_new w3 (i64s x.nums) 49
    have hnl : Hid (x.nums.length = 10) := rfl
    have hnf := Lib.hid (Mm.Ms.nums_fit HP.out.ok)
    have HBD : Hid (x.body = [Wm.pintsU x.nums x.nums.length, x.ptx, Wm.pintsU x.id x.id.length, Wm.ptext x.se, Wm.ptext x.pa].flatten) := (flat5 _ _ _ _ _).symm
    generalize x.nums = ns at *
    refine region_C (fun W => Below (w3.heap.size + 1) (w3.alloc (.cells (i64s ns).toArray 49)) W) (by kernel_rfl) ?_
    have hC : Below (w3.heap.size + 1) (w3.alloc (.cells (i64s ns).toArray 49)) (w3.alloc (.cells (i64s ns).toArray 49)).drew := (Below.refl _ _).drew
    refine anyC_take (i := 0) (v := ?v0_220) (a' := ?a0_220) rfl (by kernel_rfl) (by kernel_rfl) (by kernel_rfl) (fun _ _ _ h => h) hC ?w0_220 ?y0_220 ?f0_220 ?r0_220
    case w0_220 => kernel_rfl
    case y0_220 => (intro w hC; go_simp; try with_reducible rfl)
    case f0_220 => (go_simp; try with_reducible rfl)
    refine anyC_take (i := 4) (v := ?v4_221) (a' := ?a4_221) rfl (by kernel_rfl) (by kernel_rfl) (by kernel_rfl) (fun _ _ _ h => h) hC ?w4_221 ?y4_221 ?f4_221 ?r4_221
    case w4_221 => kernel_rfl
    case y4_221 => (intro w hC; go_simp; try with_reducible rfl)
    case f4_221 => (go_simp; try with_reducible rfl)
    refine anyC_take (i := 7) (v := ?v7_222) (a' := ?a7_222) rfl (by kernel_rfl) (by kernel_rfl) (by kernel_rfl) (fun _ _ _ h => h) hC ?w7_222 ?y7_222 ?f7_222 ?r7_222
    case w7_222 => kernel_rfl
    case y7_222 => (intro w hC; go_simp; try with_reducible rfl)
    case f7_222 => (go_simp; try with_reducible rfl)
    refine anyC_take (i := 10) (v := ?v10_223) (a' := ?a10_223) rfl (by kernel_rfl) (by kernel_rfl) (by kernel_rfl) (fun _ _ _ h => h) hC ?w10_223 ?y10_223 ?f10_223 ?r10_223
    case w10_223 => kernel_rfl
    case y10_223 => (intro w hC; go_simp; try with_reducible rfl)
    case f10_223 => (go_simp; try with_reducible rfl)
    refine anyC_take (i := 2) (v := ?v2_224) (a' := ?a2_224) rfl (by kernel_rfl) (by kernel_rfl) (by kernel_rfl) (fun _ _ _ h => h) hC ?w2_224 ?y2_224 ?f2_224 ?r2_224
    case w2_224 => kernel_rfl
    case y2_224 => (intro W hW; exact by refine exec_load 30 (.tmp 1) ?_ w.heap.size ?_ L _ (HR.out _ (HG.out _ hW)) Tryd.underlying30 rfl hlen.out <;> rfl)
    case f2_224 => (go_simp; try with_reducible rfl)
    refine anyC_take (i := 5) (v := ?v5_225) (a' := ?a5_225) rfl (by kernel_rfl) (by kernel_rfl) (by kernel_rfl) (fun _ _ _ h => h) hC ?w5_225 ?y5_225 ?f5_225 ?r5_225
    case w5_225 => kernel_rfl
    case y5_225 => (intro w hC; have h4 := (HX.out w (HG.out w hC)).id; go_simp; try with_reducible rfl)
    case f5_225 => (go_simp; try with_reducible rfl)
    refine anyC_take (i := 8) (v := ?v8_226) (a' := ?a8_226) rfl (by kernel_rfl) (by kernel_rfl) (by kernel_rfl) (fun _ _ _ h => h) hC ?w8_226 ?y8_226 ?f8_226 ?r8_226
    case w8_226 => kernel_rfl
    case y8_226 => (intro w hC; have h4 := (HX.out w (HG.out w hC)).se; go_simp; try with_reducible rfl)
    case f8_226 => (go_simp; try with_reducible rfl)
    refine anyC_take (i := 11) (v := ?v11_227) (a' := ?a11_227) rfl (by kernel_rfl) (by kernel_rfl) (by kernel_rfl) (fun _ _ _ h => h) hC ?w11_227 ?y11_227 ?f11_227 ?r11_227
    case w11_227 => kernel_rfl
    case y11_227 => (intro w hC; have h4 := (HX.out w (HG.out w hC)).pa; go_simp; try with_reducible rfl)
    case f11_227 => (go_simp; try with_reducible rfl)
    have HC5 := Lib.hid (list_any (some ⟨w3.heap.size, 0, none⟩) 10 10 (w3.heap.size + 1) ns _ (hrn.out.below (hC.mono (Nat.le_refl _))) hnl.out hnf.out (by rw [← hz4]; exact hC.size))
    rw [Wm.pintsE_ok (by have := hnl.out; omega)] at HC5
    refine anyC_one (i := 1) rfl (by kernel_rfl) (by kernel_rfl) (fun K hK => ?_)
    go_simp
    refine HC5.out.mono ?_
    rintro e w5 ⟨v5, rfl, hown5, hb5⟩
    obtain ⟨A5, c5, rfl, hcp5, hcm5, hrd5'⟩ := own_view hown5
    have hC5 : Below (w3.heap.size + 1) (w3.alloc (.cells (i64s ns).toArray 49)) w5 := hC.trans (hb5.mono (by simp))
    have hrd5 := Lib.hid hrd5'
    refine hK _ _ ⟨hC5, ?_⟩
    clear hK K HC5 hown5 hrd5' hb5
    have HC6 := Lib.hid (HPT.out _ (HP.out.below (HGW.out _ hC5) hB) (Nat.le_trans hB (HGW.out _ hC5).size) (HT.out.below (HGW.out _ hC5) (Nat.le_refl _)))
    refine anyC_one (i := 3) rfl (by kernel_rfl) (by kernel_rfl) (fun K hK => ?_)
    go_simp
    refine HC6.out.mono ?_
    rintro e w6 ⟨v6, rfl, hown6, hb6⟩
    obtain ⟨A6, c6, rfl, hcp6, hcm6, hrd6'⟩ := own_view hown6
    have hC6 : Below (w3.heap.size + 1) (w3.alloc (.cells (i64s ns).toArray 49)) w6 := hC5.trans (hb6.mono (by have := hC5.size; rw [hz4] at this; exact this))
    have hrd6 := Lib.hid hrd6'
    have hrd5 := Lib.hid (hrd5.out.below hb6)
    refine hK _ _ ⟨hC6, ?_⟩
    have hq5 := hb6.size
    clear hK K HC6 hown6 hrd6' hb6
    have HC7 := Lib.hid (list_any l.A3 l.n3 l.c3 B x.id _ (HP.out.r3.below ((HGW.out _ hC6).mono hB)) HP.out.l3 HP.out.ok.id (Nat.le_trans hB (HGW.out _ hC6).size))
    rw [Wm.pintsE_ok (by omega)] at HC7
    refine anyC_one (i := 6) rfl (by kernel_rfl) (by kernel_rfl) (fun K hK => ?_)
    go_simp
    refine HC7.out.mono ?_
    rintro e w7 ⟨v7, rfl, hown7, hb7⟩
    obtain ⟨A7, c7, rfl, hcp7, hcm7, hrd7'⟩ := own_view hown7
    have hC7 : Below (w3.heap.size + 1) (w3.alloc (.cells (i64s ns).toArray 49)) w7 := hC6.trans (hb7.mono (by have := hC6.size; rw [hz4] at this; exact this))
    have hrd7 := Lib.hid hrd7'
    have hrd5 := Lib.hid (hrd5.out.below (hb7.mono hq5))
    have hrd6 := Lib.hid (hrd6.out.below hb7)
    refine hK _ _ ⟨hC7, ?_⟩
    have hq5 := Nat.le_trans hq5 hb7.size
    have hq6 := hb7.size
    clear hK K HC7 hown7 hrd7' hb7
    have HC8 := Lib.hid (text_any l.A4 l.n4 l.c4 B x.se _ (HP.out.r4.below ((HGW.out _ hC7).mono hB)) HP.out.l4 (Nat.le_trans hB (HGW.out _ hC7).size))
    rw [Wm.ptextE_ok (by omega)] at HC8
    refine anyC_one (i := 9) rfl (by kernel_rfl) (by kernel_rfl) (fun K hK => ?_)
    go_simp
    refine HC8.out.mono ?_
    rintro e w8 ⟨v8, rfl, hown8, hb8⟩
    obtain ⟨A8, c8, rfl, hcp8, hcm8, hrd8'⟩ := own_view hown8
    have hC8 : Below (w3.heap.size + 1) (w3.alloc (.cells (i64s ns).toArray 49)) w8 := hC7.trans (hb8.mono (by have := hC7.size; rw [hz4] at this; exact this))
    have hrd8 := Lib.hid hrd8'
    have hrd5 := Lib.hid (hrd5.out.below (hb8.mono hq5))
    have hrd6 := Lib.hid (hrd6.out.below (hb8.mono hq6))
    have hrd7 := Lib.hid (hrd7.out.below hb8)
    refine hK _ _ ⟨hC8, ?_⟩
    have hq5 := Nat.le_trans hq5 hb8.size
    have hq6 := Nat.le_trans hq6 hb8.size
    have hq7 := hb8.size
    clear hK K HC8 hown8 hrd8' hb8
    have HC9 := Lib.hid (text_any l.A5 l.n5 l.c5 B x.pa _ (HP.out.r5.below ((HGW.out _ hC8).mono hB)) HP.out.l5 (Nat.le_trans hB (HGW.out _ hC8).size))
    rw [Wm.ptextE_ok (by omega)] at HC9
    refine anyC_one (i := 12) rfl (by kernel_rfl) (by kernel_rfl) (fun K hK => ?_)
    go_simp
    refine HC9.out.mono ?_
    rintro e w9 ⟨v9, rfl, hown9, hb9⟩
    obtain ⟨A9, c9, rfl, hcp9, hcm9, hrd9'⟩ := own_view hown9
    have hC9 : Below (w3.heap.size + 1) (w3.alloc (.cells (i64s ns).toArray 49)) w9 := hC8.trans (hb9.mono (by have := hC8.size; rw [hz4] at this; exact this))
    have hrd9 := Lib.hid hrd9'
    have hrd5 := Lib.hid (hrd5.out.below (hb9.mono hq5))
    have hrd6 := Lib.hid (hrd6.out.below (hb9.mono hq6))
    have hrd7 := Lib.hid (hrd7.out.below (hb9.mono hq7))
    have hrd8 := Lib.hid (hrd8.out.below hb9)
    refine hK _ _ ⟨hC9, ?_⟩
    have hq5 := Nat.le_trans hq5 hb9.size
    have hq6 := Nat.le_trans hq6 hb9.size
    have hq7 := Nat.le_trans hq7 hb9.size
    have hq8 := hb9.size
    clear hK K HC9 hown9 hrd9' hb9
    refine anyC_one (i := 13) rfl (by kernel_rfl) (by kernel_rfl) (fun K hK => ?_)
    go_simp
    have hz9 := hC9.size
    rw [hz4] at hz9
    have hb10 : Below w9.heap.size w9 (w9.alloc (.cells ([Value.slice A5 (Wm.pintsU ns ns.length).length c5, .slice A6 x.ptx.length c6, .slice A7 (Wm.pintsU x.id x.id.length).length c7, .slice A8 (Wm.ptext x.se).length c8, .slice A9 (Wm.ptext x.pa).length c9]).toArray 28)) := (Below.refl _ _).alloc (Nat.le_refl _) _
    have hC10 : Below (w3.heap.size + 1) (w3.alloc (.cells (i64s ns).toArray 49)) (w9.alloc (.cells ([Value.slice A5 (Wm.pintsU ns ns.length).length c5, .slice A6 x.ptx.length c6, .slice A7 (Wm.pintsU x.id x.id.length).length c7, .slice A8 (Wm.ptext x.se).length c8, .slice A9 (Wm.ptext x.pa).length c9]).toArray 28)) := hC9.alloc hz9 _
    have hRV : Hid (Rd (w9.alloc (.cells ([Value.slice A5 (Wm.pintsU ns ns.length).length c5, .slice A6 x.ptx.length c6, .slice A7 (Wm.pintsU x.id x.id.length).length c7, .slice A8 (Wm.ptext x.se).length c8, .slice A9 (Wm.ptext x.pa).length c9]).toArray 28)) (w9.heap.size + 1) (some ⟨w9.heap.size, 0, none⟩) [Value.slice A5 (Wm.pintsU ns ns.length).length c5, .slice A6 x.ptx.length c6, .slice A7 (Wm.pintsU x.id x.id.length).length c7, .slice A8 (Wm.ptext x.se).length c8, .slice A9 (Wm.ptext x.pa).length c9]) := cell_new w9 _ 28
    have hRW : Hid (Rws (w9.alloc (.cells ([Value.slice A5 (Wm.pintsU ns ns.length).length c5, .slice A6 x.ptx.length c6, .slice A7 (Wm.pintsU x.id x.id.length).length c7, .slice A8 (Wm.ptext x.se).length c8, .slice A9 (Wm.ptext x.pa).length c9]).toArray 28)) (w9.heap.size + 1) [Value.slice A5 (Wm.pintsU ns ns.length).length c5, .slice A6 x.ptx.length c6, .slice A7 (Wm.pintsU x.id x.id.length).length c7, .slice A8 (Wm.ptext x.se).length c8, .slice A9 (Wm.ptext x.pa).length c9] [Wm.pintsU ns ns.length, x.ptx, Wm.pintsU x.id x.id.length, Wm.ptext x.se, Wm.ptext x.pa]) := by
      refine ⟨rfl, fun j v b hv hb => ?_⟩
      match j, hv, hb with
      | 0, hv, hb => cases hv; cases hb; exact ⟨A5, c5, rfl, hcp5, hcm5, (hrd5.out.below (hb10.mono hq5)).more (by omega)⟩
      | 1, hv, hb => cases hv; cases hb; exact ⟨A6, c6, rfl, hcp6, hcm6, (hrd6.out.below (hb10.mono hq6)).more (by omega)⟩
      | 2, hv, hb => cases hv; cases hb; exact ⟨A7, c7, rfl, hcp7, hcm7, (hrd7.out.below (hb10.mono hq7)).more (by omega)⟩
      | 3, hv, hb => cases hv; cases hb; exact ⟨A8, c8, rfl, hcp8, hcm8, (hrd8.out.below (hb10.mono hq8)).more (by omega)⟩
      | 4, hv, hb => cases hv; cases hb; exact ⟨A9, c9, rfl, hcp9, hcm9, (hrd9.out.below hb10).more (by omega)⟩
      | j + 5, hv, _ => cases hv
    have hCC := Lib.hid (Concat_any (some ⟨w9.heap.size, 0, none⟩) 5 5 (w9.heap.size + 1) _ _ _ hRV.out hRW.out rfl (by omega) (by rw [← HBD.out]; have := hbl.out; omega) (by rw [World.size_alloc]; exact Nat.le_refl _))
    rw [← HBD.out] at hCC
    have hz10 : w3.heap.size + 1 ≤ (w9.alloc (.cells ([Value.slice A5 (Wm.pintsU ns ns.length).length c5, .slice A6 x.ptx.length c6, .slice A7 (Wm.pintsU x.id x.id.length).length c7, .slice A8 (Wm.ptext x.se).length c8, .slice A9 (Wm.ptext x.pa).length c9]).toArray 28)).heap.size := by rw [World.size_alloc]; omega
    refine hK _ _ ⟨hC10, ?_⟩
    clear hK K hRV hRW hb10
    refine anyC_one (i := 14) rfl (by kernel_rfl) (by kernel_rfl) (fun K hK => ?_)
    go_simp
    refine hCC.out.mono ?_
    rintro e w11 ⟨v11, rfl, hown11, hb11⟩
    have hC11 := hC10.trans (hb11.mono hz10)
    have hO11 := Lib.hid (own_mono hown11 (Nat.le_trans (by omega) hz10) : w11.ownsRow w.heap.size 5 1 v11 x.body.length (u8s x.body))
    have hbw := Lib.hid (HGW.out _ hC11)
    refine hK _ _ ⟨hC11, ?_⟩
    clear hK K hCC hown11 hb11
    refine anyC_take (i := 15) (v := ?v15_228) (a' := ?a15_228) rfl (by kernel_rfl) (by kernel_rfl) (by kernel_rfl) (fun _ _ _ h => h) hC11 ?w15_228 ?y15_228 ?f15_228 ?r15_228
    case w15_228 => kernel_rfl
    case y15_228 => (intro w hC; go_simp; try with_reducible rfl)
    case f15_228 => (go_simp; try with_reducible rfl)
    refine anyC_done (by kernel_rfl) ?_
    have k0 := (HX.out _ (HG.out _ hC11)).at 0 rfl
    go_wp2
    go_ret3
    rw [HE.out]
    exact ⟨_, rfl, hO11.out, hbw.out⟩
end Go.Proofs.YtpgfnhdaembhmaaDoor
