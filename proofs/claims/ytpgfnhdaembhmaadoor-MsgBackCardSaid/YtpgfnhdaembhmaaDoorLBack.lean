/- The law MsgBack walked. -/
import Derived.Test.YtpgfnhdaembhmaaDoorMw
import Derived.Test.YtpgfnhdaembhmaaDoorMh
namespace Go.Proofs.YtpgfnhdaembhmaaDoor
open Go.RowKit Go.Shelf

namespace Mm
theorem get_kept {b : List Int} (hb : Fm.By b) : (get b).1.Ok ∧ (((get b).1 = zero ∧ (get b).2 ≠ 0) ∨ ((get b).2 = 0 ∧ (get b).1.right = true ∧ (get b).1.put = (b, 0))) := by
  by_cases he : (Fm.get b 0).2.2.2 = 0
  case neg =>
    rw [get_err he]
    exact ⟨ok_zero, .inl ⟨rfl, he⟩⟩
  by_cases h1 : (Fm.get b 0).2.2.1 = (b.length : Int)
  case neg =>
    rw [get_more he h1]
    exact ⟨ok_zero, .inl ⟨rfl, by decide⟩⟩
  rw [get_of he h1]
  obtain ⟨hk, hy⟩ := fget_by hb
  obtain ⟨h2, h3 | ⟨h4, h5, h6, h7⟩⟩ := of_kept hk hy
  · rw [h3]
    exact ⟨ok_zero, .inl ⟨rfl, by decide⟩⟩
  refine ⟨h2, .inr ⟨h4, h5, ?_⟩⟩
  rw [put_ok h5, h6, h7]
  by_cases hm : (Fm.meas (b.drop 0)).2 = 0
  · have e : Fm.get b 0 = _ := Fm.get_ok (n := 0) (Nat.zero_le _) hm
    rw [e] at h1 ⊢
    dsimp only at h1 ⊢
    have hg : Fm.g1 (b.drop 0) = some ((b.drop 0).getD 1 0, ((b.drop 0).drop 4).take (Fm.ln (b.drop 0))) := by unfold Fm.g1; rw [if_pos hm]
    obtain ⟨-, -, -, -, q5, q6⟩ := Fm.g1_some (hb.drop 0) hg
    have q7 : (b.drop 0).drop ((((b.drop 0).drop 4).take (Fm.ln (b.drop 0))).length + 8) = [] := by
      rw [List.drop_eq_nil_iff, List.drop_zero]
      rw [List.drop_zero] at q5 h1
      omega
    rw [q7, List.append_nil] at q6
    have q8 := q6.symm
    rw [List.drop_zero] at q8 ⊢
    rw [q8]
  · have e : Fm.get b 0 = _ := Fm.get_err (n := 0) (Nat.zero_le _) hm
    rw [e] at he
    exact absurd he hm
theorem put_inj {x y : Ms} (hx : x.Ok) (hy : y.Ok) (h : x.right = true) (h2 : y.right = true) (he : x.put.1 = y.put.1) : x = y := by
  have e1 := get_put hx h
  rw [he, get_put hy h2] at e1
  exact (congrArg Prod.fst e1).symm
theorem back_same {x y : Ms} (hx : x.Ok) (hy : y.Ok) (h : x.right = true) (h2 : y.right = true) : decide (x.put.1 = y.put.1) = same x y := by
  by_cases e : x = y
  · rw [show same x y = true from Pm.ask_yes e]
    exact decide_eq_true (by rw [e])
  · rw [same_no e]
    exact decide_eq_false (fun q => e (put_inj hx hy h h2 q))
end Mm

set_option maxRecDepth 100000 in
set_option maxHeartbeats 16000000 in
theorem mback_walk (x : Mm.Ms) (l : Lo) (y : Mm.Ms) (m : Lo) (a : Option Addr) (len cap : Nat) (z : List Int) (w : World) (hp : MsAt w w.heap.size x l) (hq : MsAt w w.heap.size y m) (hr : RowOf .u8 w a len cap z) (ht : Tab w) (hh : HTab w) :
    Calls Tryd.prog 5 #[mv x l, mv y m, .slice a len cap] w fun e w' => e = .returned (.bool true) ∧ Below w.heap.size w w' := by
  obtain ⟨bs, hbl, hlc, hcm, hbr, hbw⟩ := row_rd hr
  have hbb := Lib.hid (wf_u8 hbw)
  have HBR := Lib.hid hbr
  have HBL := Lib.hid hbl
  clear hr hbr hbw hbl
  have hz1 : (w.alloc (.cells (mvs x l).toArray 30)).heap.size = w.heap.size + 1 := World.size_alloc ..
  have hx0 := Mx.new w x l 30
  have hx1 := hx0.below (B := w.heap.size + 1) ((Below.refl _ (w.alloc (.cells (mvs x l).toArray 30))).alloc (by omega) (.cells (mvs y m).toArray 30)) (Nat.lt_succ_self _)
  have hy1 := Mx.new (w.alloc (.cells (mvs x l).toArray 30)) y m 30
  have hbw : Hid (Below w.heap.size w ((w.alloc (.cells (mvs x l).toArray 30)).alloc (.cells (mvs y m).toArray 30))) := ((Below.refl _ w).alloc (Nat.le_refl _) _).alloc (by omega) _
  have hz2 : ((w.alloc (.cells (mvs x l).toArray 30)).alloc (.cells (mvs y m).toArray 30)).heap.size = w.heap.size + 2 := by rw [World.size_alloc, hz1]
  rw [hz1] at hy1
  have HRX : Hid (∀ (W : World), Below (w.heap.size + 2) ((w.alloc (.cells (mvs x l).toArray 30)).alloc (.cells (mvs y m).toArray 30)) W → W.rangeAt w.heap.size 0 (mvs x l)) := fun W h => hx1.below h (by omega)
  have HRY : Hid (∀ (W : World), Below (w.heap.size + 2) ((w.alloc (.cells (mvs x l).toArray 30)).alloc (.cells (mvs y m).toArray 30)) W → W.rangeAt (w.heap.size + 1) 0 (mvs y m)) := fun W h => hy1.below h (Nat.lt_succ_self _)
  have HW : Hid (∀ (W : World), Below (w.heap.size + 2) ((w.alloc (.cells (mvs x l).toArray 30)).alloc (.cells (mvs y m).toArray 30)) W → Below w.heap.size w W) := fun W h => hbw.out.trans (h.mono (by omega))
  have HT := Lib.hid (fun (W : World) (h : Below w.heap.size w W) => ht.below h (Nat.le_refl _))
  have HH := Lib.hid (fun (W : World) (h : Below w.heap.size w W) => hh.below h (Nat.le_refl _))
  have HD := Lib.hid (fun (W : World) (h : Below w.heap.size w W) => mhead_any W (HT.out W h) (HH.out W h))
  have HPX := Lib.hid (fun (W : World) (h : Below w.heap.size w W) => MPut_any x l w.heap.size W (hp.below h (Nat.le_refl _)) h.size (HT.out W h) (HH.out W h))
  have HPY := Lib.hid (fun (W : World) (h : Below w.heap.size w W) => MPut_any y m w.heap.size W (hq.below h (Nat.le_refl _)) h.size (HT.out W h) (HH.out W h))
  have HSX := Lib.hid (fun (n : Lo) (B2 : Nat) (W : World) (h : Below w.heap.size w W) (hr : MsAt W B2 x n) (hB2 : B2 ≤ W.heap.size) => RMSame_any x x l n w.heap.size B2 W (hp.below h (Nat.le_refl _)) hr h.size hB2)
  have HRS := Lib.hid (fun (W : World) (h : Below w.heap.size w W) => RMSame_any x y l m w.heap.size w.heap.size W (hp.below h (Nat.le_refl _)) (hq.below h (Nat.le_refl _)) h.size h.size)
  have HMS := Lib.hid (fun (W : World) (h : Below w.heap.size w W) => MSame_any x y l m w.heap.size w.heap.size W (hp.below h (Nat.le_refl _)) (hq.below h (Nat.le_refl _)) h.size h.size)
  have HGB := Lib.hid (fun (W : World) (h : Below w.heap.size w W) => MGet_any a len cap w.heap.size bs W (HBR.out.below h) HBL.out hlc hcm h.size hbb.out (HT.out W h) (HH.out W h))
  have HGX := Lib.hid (fun (A : Option Addr) (c B : Nat) (b : List Int) (W : World) (h : Below w.heap.size w W) hrd hc hm hB hby => MGet_any A b.length c B b W hrd rfl hc hm hB hby (HT.out W h) (HH.out W h))
  have HPZ := Lib.hid (fun (n : Lo) (B : Nat) (W : World) (h : Below w.heap.size w W) (hm : MsAt W B (Mm.get bs).1 n) hB => MPut_any (Mm.get bs).1 n B W hm hB (HT.out W h) (HH.out W h))
  have HI1 : Hid ((Tryd.prog.info? 30).map (·.size) = some (mvs x l).length) := info_msg
  have HI2 : Hid ((Tryd.prog.info? 30).map (·.size) = some (mvs y m).length) := info_msg
  have HXO := Lib.hid hp.ok
  have HYO := Lib.hid hq.ok
  have HZ2 := Lib.hid hz2
  have hC0 := Lib.hid (Below.refl (w.heap.size + 2) ((w.alloc (.cells (mvs x l).toArray 30)).alloc (.cells (mvs y m).toArray 30)))
  have hby1 := Lib.hid (Mm.put_by HXO.out)
  have hby2 := Lib.hid (Mm.put_by HYO.out)
  have HKP := Lib.hid (Mm.get_kept hbb.out)
  rw [show Mm.same x x = true from Mm.same_yes] at HSX
  unfold mv at HPX HPY HSX HRS HMS HPZ ⊢
  generalize mvs x l = L at *
  generalize mvs y m = M at *
  clear hx0 hx1 hy1 hz1 hz2 hp hq ht hh hlc hcm
  go_enter Tryd.func5, Tryd.ntmps5
  go_wp2_with (go_at_call 9; fail)
  refine (HD.out _ hbw.out).mono ?_
  rintro e w2 ⟨rfl, hb2⟩
  have hC2 : Hid (Below (w.heap.size + 2) ((w.alloc (.cells L.toArray 30)).alloc (.cells M.toArray 30)) w2) := hb2.mono (by rw [HZ2.out]; exact Nat.le_refl _)
  have hz2 : w.heap.size + 2 ≤ w2.heap.size := by have := hC2.out.size; rwa [HZ2.out] at this
  clear hb2 HD
  go_wp2_with (first | ((with_reducible refine wpList_gate ?_); refine wpList_load_mid rfl 30 _ rfl w.heap.size 0 rfl L _ (HRX.out _ hC2.out) Tryd.underlying30 rfl HI1.out ?_) | (go_at_call 10; fail))
  refine (HPX.out w2 (HW.out _ hC2.out)).mono ?_
  rintro e w3 ⟨v3, rfl, hown3, hb3⟩
  obtain ⟨A3, c3, rfl, hcp3, hcm3, hrd3⟩ := own_view hown3
  have hC3 := Lib.hid (hC2.out.trans (hb3.mono hz2))
  have hz3 := Nat.le_trans hz2 hb3.size
  have HR3 := Lib.hid hrd3
  clear hb3 hown3 hrd3 hC2 HPX
  go_wp2_with (first | ((with_reducible refine wpList_gate ?_); refine wpList_load_mid rfl 30 _ rfl (w.heap.size + 1) 0 rfl M _ (HRY.out _ hC3.out) Tryd.underlying30 rfl HI2.out ?_) | (go_at_call 10; fail))
  refine (HPY.out w3 (HW.out _ hC3.out)).mono ?_
  rintro e w4 ⟨v4, rfl, hown4, hb4⟩
  obtain ⟨A4, c4, rfl, hcp4, hcm4, hrd4⟩ := own_view hown4
  have hC4 := Lib.hid (hC3.out.trans (hb4.mono hz3))
  have hz4 := Nat.le_trans hz3 hb4.size
  have HR34 := Lib.hid ((HR3.out.below hb4).more hb4.size)
  have HR4 := Lib.hid hrd4
  clear hb4 hown4 hrd4 hC3 HPY HR3
  cases hrx : x.right with
  | false =>
    have hx2 : x.put.2 = 51 := by rw [Mm.put_no hrx]
    rw [hx2]
    clear hrx hx2 HSX HGX
    go_wp2_with fail
    refine region_C (fun W => Below w4.heap.size w4 W) (by kernel_rfl) ?_
    have hC : Below w4.heap.size w4 w4.drew := (Below.refl _ _).drew
    have HWC := Lib.hid (fun W (h : Below w4.heap.size w4 W) => HW.out _ (hC4.out.trans (h.mono hz4)))
    refine anyC_take (i := 0) (v := ?v0_1) (a' := ?a0_1) rfl (by kernel_rfl) (by kernel_rfl) (by kernel_rfl) (fun _ _ _ h => h) hC ?w0_1 ?y0_1 ?f0_1 ?r0_1
    case w0_1 => kernel_rfl
    case y0_1 => (intro W hW; exact by refine exec_load 30 (.tmp 3) ?_ w.heap.size ?_ L _ (HRX.out _ (hC4.out.trans (hW.mono hz4))) Tryd.underlying30 rfl HI1.out <;> rfl)
    case f0_1 => (go_simp; try with_reducible rfl)
    refine anyC_take (i := 1) (v := ?v1_2) (a' := ?a1_2) rfl (by kernel_rfl) (by kernel_rfl) (by kernel_rfl) (fun _ _ _ h => h) hC ?w1_2 ?y1_2 ?f1_2 ?r1_2
    case w1_2 => kernel_rfl
    case y1_2 => (intro W hW; exact by refine exec_load 30 (.tmp 4) ?_ (w.heap.size + 1) ?_ M _ (HRY.out _ (hC4.out.trans (hW.mono hz4))) Tryd.underlying30 rfl HI2.out <;> rfl)
    case f1_2 => (go_simp; try with_reducible rfl)
    refine anyC_take (i := 3) (v := ?v3_3) (a' := ?a3_3) rfl (by kernel_rfl) (by kernel_rfl) (by kernel_rfl) (fun _ _ _ h => h) hC ?w3_3 ?y3_3 ?f3_3 ?r3_3
    case w3_3 => kernel_rfl
    case y3_3 => (intro W hW; exact by refine exec_load 30 (.tmp 3) ?_ w.heap.size ?_ L _ (HRX.out _ (hC4.out.trans (hW.mono hz4))) Tryd.underlying30 rfl HI1.out <;> rfl)
    case f3_3 => (go_simp; try with_reducible rfl)
    refine anyC_take (i := 4) (v := ?v4_4) (a' := ?a4_4) rfl (by kernel_rfl) (by kernel_rfl) (by kernel_rfl) (fun _ _ _ h => h) hC ?w4_4 ?y4_4 ?f4_4 ?r4_4
    case w4_4 => kernel_rfl
    case y4_4 => (intro W hW; exact by refine exec_load 30 (.tmp 4) ?_ (w.heap.size + 1) ?_ M _ (HRY.out _ (hC4.out.trans (hW.mono hz4))) Tryd.underlying30 rfl HI2.out <;> rfl)
    case f4_4 => (go_simp; try with_reducible rfl)
    refine anyC_one (i := 2) rfl (by kernel_rfl) (by kernel_rfl) (fun K hK => ?_)
    go_simp
    refine (HMS.out _ (HWC.out _ hC)).mono ?_
    rintro e u1 ⟨rfl, hb⟩
    have h1 : Below w4.heap.size w4 u1 := hC.trans (hb.mono hC.size)
    refine hK _ _ ⟨h1, ?_⟩
    clear hK K hb hC
    refine anyC_one (i := 5) rfl (by kernel_rfl) (by kernel_rfl) (fun K hK => ?_)
    go_simp
    refine (HRS.out _ (HWC.out _ h1)).mono ?_
    rintro e u2 ⟨rfl, hb⟩
    have h2 : Below w4.heap.size w4 u2 := h1.trans (hb.mono h1.size)
    refine hK _ _ ⟨h2, ?_⟩
    clear hK K hb h1
    have hne : (Mm.same x y != Mm.same x y) = false := by simp
    generalize Mm.same x y = sb at *
    refine anyC_take (i := 6) (v := ?v6_5) (a' := ?a6_5) rfl (by kernel_rfl) (by kernel_rfl) (by kernel_rfl) (fun _ _ _ h => h) h2 ?w6_5 ?y6_5 ?f6_5 ?r6_5
    case w6_5 => kernel_rfl
    case y6_5 => (intro w hC; go_simp; try with_reducible rfl)
    case f6_5 => (go_simp; try with_reducible rfl)
    refine anyC_take (i := 7) (v := ?v7_6) (a' := ?a7_6) rfl (by kernel_rfl) (by kernel_rfl) (by kernel_rfl) (fun _ _ _ h => h) h2 ?w7_6 ?y7_6 ?f7_6 ?r7_6
    case w7_6 => kernel_rfl
    case y7_6 => (intro w hC; go_simp; try with_reducible rfl)
    case f7_6 => (go_simp; try with_reducible rfl)
    refine anyC_take (i := 8) (v := ?v8_7) (a' := ?a8_7) rfl (by kernel_rfl) (by kernel_rfl) (by kernel_rfl) (fun _ _ _ h => h) h2 ?w8_7 ?y8_7 ?f8_7 ?r8_7
    case w8_7 => kernel_rfl
    case y8_7 => (intro w hC; go_simp; try with_reducible rfl)
    case f8_7 => (go_simp; try with_reducible rfl)
    refine anyC_take (i := 9) (v := ?v9_8) (a' := ?a9_8) rfl (by kernel_rfl) (by kernel_rfl) (by kernel_rfl) (fun _ _ _ h => h) h2 ?w9_8 ?y9_8 ?f9_8 ?r9_8
    case w9_8 => kernel_rfl
    case y9_8 => (intro w hC; go_simp; try with_reducible rfl)
    case f9_8 => (go_simp; try with_reducible rfl)
    refine anyC_take (i := 10) (v := ?v10_9) (a' := ?a10_9) rfl (by kernel_rfl) (by kernel_rfl) (by kernel_rfl) (fun _ _ _ h => h) h2 ?w10_9 ?y10_9 ?f10_9 ?r10_9
    case w10_9 => kernel_rfl
    case y10_9 => (intro w hC; go_simp; try with_reducible rfl)
    case f10_9 => (go_simp; try with_reducible rfl)
    refine anyC_skip (i := 11) (a' := ?a11_10) rfl (by kernel_rfl) (by kernel_rfl) (by kernel_rfl) (fun _ _ _ h => h) h2 (by kernel_rfl) ?f11_10 ?r11_10
    case f11_10 => (go_simp; try with_reducible rfl)
    refine anyC_skip (i := 12) (a' := ?a12_11) rfl (by kernel_rfl) (by kernel_rfl) (by kernel_rfl) (fun _ _ _ h => h) h2 (by kernel_rfl) ?f12_11 ?r12_11
    case f12_11 => (go_simp; try with_reducible rfl)
    refine anyC_take (i := 13) (v := ?v13_12) (a' := ?a13_12) rfl (by kernel_rfl) (by kernel_rfl) (by kernel_rfl) (fun _ _ _ h => h) h2 ?w13_12 ?y13_12 ?f13_12 ?r13_12
    case w13_12 => kernel_rfl
    case y13_12 => (intro w hC; go_simp; try with_reducible rfl)
    case f13_12 => (go_simp; try with_reducible rfl)
    refine anyC_take (i := 14) (v := ?v14_13) (a' := ?a14_13) rfl (by kernel_rfl) (by kernel_rfl) (by kernel_rfl) (fun _ _ _ h => h) h2 ?w14_13 ?y14_13 ?f14_13 ?r14_13
    case w14_13 => kernel_rfl
    case y14_13 => (intro w hC; go_simp; try with_reducible rfl)
    case f14_13 => (go_simp; try with_reducible rfl)
    refine anyC_skip (i := 15) (a' := ?a15_14) rfl (by kernel_rfl) (by kernel_rfl) (by kernel_rfl) (fun _ _ _ h => h) h2 (by kernel_rfl) ?f15_14 ?r15_14
    case f15_14 => (go_simp; try with_reducible rfl)
    refine anyC_skip (i := 16) (a' := ?a16_15) rfl (by kernel_rfl) (by kernel_rfl) (by kernel_rfl) (fun _ _ _ h => h) h2 (by kernel_rfl) ?f16_15 ?r16_15
    case f16_15 => (go_simp; try with_reducible rfl)
    refine anyC_skip (i := 17) (a' := ?a17_16) rfl (by kernel_rfl) (by kernel_rfl) (by kernel_rfl) (fun _ _ _ h => h) h2 (by kernel_rfl) ?f17_16 ?r17_16
    case f17_16 => (go_simp; try with_reducible rfl)
    refine anyC_skip (i := 18) (a' := ?a18_17) rfl (by kernel_rfl) (by kernel_rfl) (by kernel_rfl) (fun _ _ _ h => h) h2 (by kernel_rfl) ?f18_17 ?r18_17
    case f18_17 => (go_simp; try with_reducible rfl)
    refine anyC_skip (i := 19) (a' := ?a19_18) rfl (by kernel_rfl) (by kernel_rfl) (by kernel_rfl) (fun _ _ _ h => h) h2 (by kernel_rfl) ?f19_18 ?r19_18
    case f19_18 => (go_simp; try with_reducible rfl)
    refine anyC_skip (i := 20) (a' := ?a20_19) rfl (by kernel_rfl) (by kernel_rfl) (by kernel_rfl) (fun _ _ _ h => h) h2 (by kernel_rfl) ?f20_19 ?r20_19
    case f20_19 => (go_simp; try with_reducible rfl)
    refine anyC_skip (i := 21) (a' := ?a21_20) rfl (by kernel_rfl) (by kernel_rfl) (by kernel_rfl) (fun _ _ _ h => h) h2 (by kernel_rfl) ?f21_20 ?r21_20
    case f21_20 => (go_simp; try with_reducible rfl)
    refine anyC_skip (i := 22) (a' := ?a22_21) rfl (by kernel_rfl) (by kernel_rfl) (by kernel_rfl) (fun _ _ _ h => h) h2 (by kernel_rfl) ?f22_21 ?r22_21
    case f22_21 => (go_simp; try with_reducible rfl)
    refine anyC_skip (i := 23) (a' := ?a23_22) rfl (by kernel_rfl) (by kernel_rfl) (by kernel_rfl) (fun _ _ _ h => h) h2 (by kernel_rfl) ?f23_22 ?r23_22
    case f23_22 => (go_simp; try with_reducible rfl)
    refine anyC_take (i := 24) (v := ?v24_23) (a' := ?a24_23) rfl (by kernel_rfl) (by kernel_rfl) (by kernel_rfl) (fun _ _ _ h => h) h2 ?w24_23 ?y24_23 ?f24_23 ?r24_23
    case w24_23 => kernel_rfl
    case y24_23 => (intro w hC; go_simp; try with_reducible rfl)
    case f24_23 => (go_simp; try with_reducible rfl)
    refine anyC_take (i := 25) (v := ?v25_24) (a' := ?a25_24) rfl (by kernel_rfl) (by kernel_rfl) (by kernel_rfl) (fun _ _ _ h => h) h2 ?w25_24 ?y25_24 ?f25_24 ?r25_24
    case w25_24 => kernel_rfl
    case y25_24 => (intro w hC; go_simp; try with_reducible rfl)
    case f25_24 => (go_simp; try with_reducible rfl)
    refine anyC_done (by kernel_rfl) ?_
    have hwz := Lib.hid (HWC.out _ h2)
    clear h2 HWC hne HMS HRS
    go_wp2_with (go_at_call 16; fail)
    refine (HGB.out _ hwz.out).mono ?_
    rintro e w8 ⟨l8, rfl, hms8, -, hb8⟩
    have hw8 := Lib.hid (hwz.out.trans (hb8.mono hwz.out.size))
    have hb9 : Below w8.heap.size w8 (w8.alloc (.cells (mvs (Mm.get bs).1 l8).toArray 30)) := (Below.refl _ _).alloc (Nat.le_refl _) _
    have hw9 := Lib.hid (hw8.out.trans (hb9.mono hw8.out.size))
    have HM9 := Lib.hid (hms8.below hb9 (Nat.le_refl _))
    have HR9 := Lib.hid (range_new w8 (mvs (Mm.get bs).1 l8) 30)
    have hz9 : Hid ((w8.alloc (.cells (mvs (Mm.get bs).1 l8).toArray 30)).heap.size = w8.heap.size + 1) := World.size_alloc ..
    have hi : Hid ((Tryd.prog.info? 30).map (·.size) = some (mvs (Mm.get bs).1 l8).length) := info_msg
    have hi2 : Hid ((Tryd.prog.info? 30).map (·.size) = some (mvs (Mm.get bs).1 l8).toArray.size) := info_msg
    have hs : Hid (26 = (mvs (Mm.get bs).1 l8).toArray.size) := rfl
    have ho := Lib.hid (mvs_one (Mm.get bs).1 l8)
    have HN0 : Hid ((mvs (Mm.get bs).1 l8)[0]? = some (.int .i64 (Mm.get bs).1.k)) := rfl
    have HN10 : Hid ((mvs (Mm.get bs).1 l8)[10]? = some (.bool (Mm.get bs).1.has)) := rfl
    have HPZ8 := Lib.hid (HPZ.out l8)
    clear hb8 hms8 hb9 hwz
    unfold mv
    generalize Mm.get bs = Y at *
    obtain ⟨R, hR⟩ : ∃ R, R = mvs Y.1 l8 := ⟨_, rfl⟩
    rw [← hR] at hw9 HM9 HR9 hz9 hi hi2 hs ho HN0 HN10 HPZ8 ⊢
    clear hR
    obtain ⟨-, ⟨h1, h2⟩ | ⟨h1, h2, h3⟩⟩ := HKP.out
    · have hg : (Y.2 != 0) = true := by rw [bne_iff_ne]; exact h2
      rw [h1] at HN0 HN10
      have f0 := range_at HR9.out 0 HN0.out
      have f10 := range_at HR9.out 10 HN10.out
      rw [show Mm.zero.k = 0 from rfl] at f0
      rw [show Mm.zero.has = false from rfl] at f10
      clear h1 h2 HKP
      go_wp2_with ((with_reducible refine wpList_gate ?_); refine wpList_store_new rfl 30 _ _ rfl _ R.toArray rfl rfl hi2.out hs.out ho.out ?_; generalize World.alloc w8 _ = w9 at *)
      go_ret
      exact ⟨rfl, hw9.out⟩
    · have hg : (Y.2 != 0) = false := by rw [h1]; rfl
      have HPUT := Lib.hid (HPZ8.out w8.heap.size _ hw9.out HM9.out (by rw [hz9.out]; omega))
      rw [h3] at HPUT
      clear h1 h2 h3 HKP
      go_wp2_with (first | ((with_reducible refine wpList_gate ?_); refine wpList_store_new rfl 30 _ _ rfl _ R.toArray rfl rfl hi2.out hs.out ho.out ?_; generalize World.alloc w8 _ = w9 at *) | ((with_reducible refine wpList_gate ?_); refine wpList_load_mid rfl 30 _ rfl w8.heap.size 0 rfl R _ HR9.out Tryd.underlying30 rfl hi.out ?_) | (go_at_call 10; fail))
      refine HPUT.out.mono ?_
      rintro e w10 ⟨v10, rfl, hown10, hb10⟩
      obtain ⟨A10, c10, rfl, -, -, hrd10⟩ := own_view hown10
      have hw10 := Lib.hid (hw9.out.trans (hb10.mono hw9.out.size))
      have s1 := str_of (cap := c10) hrd10 rfl
      have s2 := str_of (cap := cap) (HBR.out.below hw10.out) HBL.out
      have hST : ((strOfNums bs).toList == (strOfNums bs).toList) = true := by rw [beq_self_eq_true]
      clear hown10 hb10 hrd10 HPUT
      go_wp2
      go_ret
      exact ⟨rfl, hw10.out⟩
  | true =>
    have hx2 : x.put.2 = 0 := by rw [Mm.put_ok hrx]
    have hgp := Mm.get_put HXO.out hrx
    rw [hx2]
    have HG1 := Lib.hid (HGX.out A3 c3 w4.heap.size x.put.1 w4 (HW.out _ hC4.out) HR34.out hcp3 hcm3 (Nat.le_refl _) hby1.out)
    rw [hgp] at HG1
    clear hx2 hgp HGX
    go_wp2_with (go_at_call 16; fail)
    refine HG1.out.mono ?_
    rintro e w5 ⟨l5, rfl, hms5, -, hb5⟩
    have hC5 := Lib.hid (hC4.out.trans (hb5.mono hz4))
    have hz5 := Nat.le_trans hz4 hb5.size
    have hk6 : Below w5.heap.size w5 (w5.alloc (.cells (mvs x l5).toArray 30)) := (Below.refl _ _).alloc (Nat.le_refl _) _
    have hC6 := Lib.hid (hC5.out.trans (hk6.mono hz5))
    have hz6 : Hid ((w5.alloc (.cells (mvs x l5).toArray 30)).heap.size = w5.heap.size + 1) := World.size_alloc ..
    have hk46 := Lib.hid (hb5.trans (hk6.mono hb5.size))
    have hpa6 := Lib.hid (hms5.below hk6 (Nat.le_refl _))
    have HRZ := Lib.hid (range_new w5 (mvs x l5) 30)
    have HS1 := Lib.hid (HSX.out l5 w5.heap.size _ (HW.out _ hC6.out) hpa6.out (by rw [hz6.out]; omega))
    have ho := Lib.hid (mvs_one x l5)
    have hi : Hid ((Tryd.prog.info? 30).map (·.size) = some (mvs x l5).length) := info_msg
    have hi2 : Hid ((Tryd.prog.info? 30).map (·.size) = some (mvs x l5).toArray.size) := info_msg
    have hs : Hid (26 = (mvs x l5).toArray.size) := rfl
    clear hb5 hms5 hk6 HG1 hpa6 HSX hC5
    unfold mv
    generalize mvs x l5 = R5 at *
    go_wp2_with (first | ((with_reducible refine wpList_gate ?_); refine wpList_store_new rfl 30 _ _ rfl _ R5.toArray rfl rfl hi2.out hs.out ho.out ?_; generalize World.alloc w5 _ = w6 at *) | ((with_reducible refine wpList_gate ?_); refine wpList_load_on 30 _ rfl w.heap.size 0 rfl L _ (HRX.out _ hC6.out) Tryd.underlying30 rfl HI1.out (by kernel_rfl) ?_) | ((with_reducible refine wpList_gate ?_); refine wpList_load_on 30 _ rfl w5.heap.size 0 rfl R5 _ HRZ.out Tryd.underlying30 rfl hi.out (by kernel_rfl) ?_) | (go_at_call 20; fail))
    refine HS1.out.mono ?_
    rintro e w7 ⟨rfl, hb7⟩
    have hC7 := Lib.hid (hC6.out.trans (hb7.mono (by rw [hz6.out]; omega)))
    have hk47 := Lib.hid (hk46.out.trans (hb7.mono (by have := hk46.out.size; omega)))
    have hz47 : w4.heap.size ≤ w7.heap.size := hk47.out.size
    have hz7 : w.heap.size + 2 ≤ w7.heap.size := Nat.le_trans hz4 hz47
    clear hb7 HS1 hC6 hk46 HRZ hi hi2 hs ho hz6
    cases hry : y.right with
    | false =>
      have hy2 : y.put.2 = 51 := by rw [Mm.put_no hry]
      rw [hy2]
      clear hry hy2 hrx
      go_wp2_with fail
      refine region_C (fun W => Below w7.heap.size w7 W) (by kernel_rfl) ?_
      have hC : Below w7.heap.size w7 w7.drew := (Below.refl _ _).drew
      have HWC := Lib.hid (fun W (h : Below w7.heap.size w7 W) => HW.out _ (hC7.out.trans (h.mono hz7)))
      refine anyC_take (i := 0) (v := ?v0_25) (a' := ?a0_25) rfl (by kernel_rfl) (by kernel_rfl) (by kernel_rfl) (fun _ _ _ h => h) hC ?w0_25 ?y0_25 ?f0_25 ?r0_25
      case w0_25 => kernel_rfl
      case y0_25 => (intro W hW; exact by refine exec_load 30 (.tmp 3) ?_ w.heap.size ?_ L _ (HRX.out _ (hC7.out.trans (hW.mono hz7))) Tryd.underlying30 rfl HI1.out <;> rfl)
      case f0_25 => (go_simp; try with_reducible rfl)
      refine anyC_take (i := 1) (v := ?v1_26) (a' := ?a1_26) rfl (by kernel_rfl) (by kernel_rfl) (by kernel_rfl) (fun _ _ _ h => h) hC ?w1_26 ?y1_26 ?f1_26 ?r1_26
      case w1_26 => kernel_rfl
      case y1_26 => (intro W hW; exact by refine exec_load 30 (.tmp 4) ?_ (w.heap.size + 1) ?_ M _ (HRY.out _ (hC7.out.trans (hW.mono hz7))) Tryd.underlying30 rfl HI2.out <;> rfl)
      case f1_26 => (go_simp; try with_reducible rfl)
      refine anyC_take (i := 3) (v := ?v3_27) (a' := ?a3_27) rfl (by kernel_rfl) (by kernel_rfl) (by kernel_rfl) (fun _ _ _ h => h) hC ?w3_27 ?y3_27 ?f3_27 ?r3_27
      case w3_27 => kernel_rfl
      case y3_27 => (intro W hW; exact by refine exec_load 30 (.tmp 3) ?_ w.heap.size ?_ L _ (HRX.out _ (hC7.out.trans (hW.mono hz7))) Tryd.underlying30 rfl HI1.out <;> rfl)
      case f3_27 => (go_simp; try with_reducible rfl)
      refine anyC_take (i := 4) (v := ?v4_28) (a' := ?a4_28) rfl (by kernel_rfl) (by kernel_rfl) (by kernel_rfl) (fun _ _ _ h => h) hC ?w4_28 ?y4_28 ?f4_28 ?r4_28
      case w4_28 => kernel_rfl
      case y4_28 => (intro W hW; exact by refine exec_load 30 (.tmp 4) ?_ (w.heap.size + 1) ?_ M _ (HRY.out _ (hC7.out.trans (hW.mono hz7))) Tryd.underlying30 rfl HI2.out <;> rfl)
      case f4_28 => (go_simp; try with_reducible rfl)
      refine anyC_one (i := 2) rfl (by kernel_rfl) (by kernel_rfl) (fun K hK => ?_)
      go_simp
      refine (HMS.out _ (HWC.out _ hC)).mono ?_
      rintro e u1 ⟨rfl, hb⟩
      have h1 : Below w7.heap.size w7 u1 := hC.trans (hb.mono hC.size)
      refine hK _ _ ⟨h1, ?_⟩
      clear hK K hb hC
      refine anyC_one (i := 5) rfl (by kernel_rfl) (by kernel_rfl) (fun K hK => ?_)
      go_simp
      refine (HRS.out _ (HWC.out _ h1)).mono ?_
      rintro e u2 ⟨rfl, hb⟩
      have h2 : Below w7.heap.size w7 u2 := h1.trans (hb.mono h1.size)
      refine hK _ _ ⟨h2, ?_⟩
      clear hK K hb h1
      have hne : (Mm.same x y != Mm.same x y) = false := by simp
      generalize Mm.same x y = sb at *
      refine anyC_take (i := 6) (v := ?v6_29) (a' := ?a6_29) rfl (by kernel_rfl) (by kernel_rfl) (by kernel_rfl) (fun _ _ _ h => h) h2 ?w6_29 ?y6_29 ?f6_29 ?r6_29
      case w6_29 => kernel_rfl
      case y6_29 => (intro w hC; go_simp; try with_reducible rfl)
      case f6_29 => (go_simp; try with_reducible rfl)
      refine anyC_take (i := 7) (v := ?v7_30) (a' := ?a7_30) rfl (by kernel_rfl) (by kernel_rfl) (by kernel_rfl) (fun _ _ _ h => h) h2 ?w7_30 ?y7_30 ?f7_30 ?r7_30
      case w7_30 => kernel_rfl
      case y7_30 => (intro w hC; go_simp; try with_reducible rfl)
      case f7_30 => (go_simp; try with_reducible rfl)
      refine anyC_take (i := 8) (v := ?v8_31) (a' := ?a8_31) rfl (by kernel_rfl) (by kernel_rfl) (by kernel_rfl) (fun _ _ _ h => h) h2 ?w8_31 ?y8_31 ?f8_31 ?r8_31
      case w8_31 => kernel_rfl
      case y8_31 => (intro w hC; go_simp; try with_reducible rfl)
      case f8_31 => (go_simp; try with_reducible rfl)
      refine anyC_take (i := 9) (v := ?v9_32) (a' := ?a9_32) rfl (by kernel_rfl) (by kernel_rfl) (by kernel_rfl) (fun _ _ _ h => h) h2 ?w9_32 ?y9_32 ?f9_32 ?r9_32
      case w9_32 => kernel_rfl
      case y9_32 => (intro w hC; go_simp; try with_reducible rfl)
      case f9_32 => (go_simp; try with_reducible rfl)
      refine anyC_take (i := 10) (v := ?v10_33) (a' := ?a10_33) rfl (by kernel_rfl) (by kernel_rfl) (by kernel_rfl) (fun _ _ _ h => h) h2 ?w10_33 ?y10_33 ?f10_33 ?r10_33
      case w10_33 => kernel_rfl
      case y10_33 => (intro w hC; go_simp; try with_reducible rfl)
      case f10_33 => (go_simp; try with_reducible rfl)
      refine anyC_take (i := 11) (v := ?v11_34) (a' := ?a11_34) rfl (by kernel_rfl) (by kernel_rfl) (by kernel_rfl) (fun _ _ _ h => h) h2 ?w11_34 ?y11_34 ?f11_34 ?r11_34
      case w11_34 => kernel_rfl
      case y11_34 => (intro w hC; go_simp; try with_reducible rfl)
      case f11_34 => (go_simp; try with_reducible rfl)
      refine anyC_take (i := 12) (v := ?v12_35) (a' := ?a12_35) rfl (by kernel_rfl) (by kernel_rfl) (by kernel_rfl) (fun _ _ _ h => h) h2 ?w12_35 ?y12_35 ?f12_35 ?r12_35
      case w12_35 => kernel_rfl
      case y12_35 => (intro w hC; go_simp; try with_reducible rfl)
      case f12_35 => (go_simp; try with_reducible rfl)
      refine anyC_take (i := 13) (v := ?v13_36) (a' := ?a13_36) rfl (by kernel_rfl) (by kernel_rfl) (by kernel_rfl) (fun _ _ _ h => h) h2 ?w13_36 ?y13_36 ?f13_36 ?r13_36
      case w13_36 => kernel_rfl
      case y13_36 => (intro w hC; go_simp; try with_reducible rfl)
      case f13_36 => (go_simp; try with_reducible rfl)
      refine anyC_take (i := 14) (v := ?v14_37) (a' := ?a14_37) rfl (by kernel_rfl) (by kernel_rfl) (by kernel_rfl) (fun _ _ _ h => h) h2 ?w14_37 ?y14_37 ?f14_37 ?r14_37
      case w14_37 => kernel_rfl
      case y14_37 => (intro w hC; go_simp; try with_reducible rfl)
      case f14_37 => (go_simp; try with_reducible rfl)
      refine anyC_skip (i := 15) (a' := ?a15_38) rfl (by kernel_rfl) (by kernel_rfl) (by kernel_rfl) (fun _ _ _ h => h) h2 (by kernel_rfl) ?f15_38 ?r15_38
      case f15_38 => (go_simp; try with_reducible rfl)
      refine anyC_skip (i := 16) (a' := ?a16_39) rfl (by kernel_rfl) (by kernel_rfl) (by kernel_rfl) (fun _ _ _ h => h) h2 (by kernel_rfl) ?f16_39 ?r16_39
      case f16_39 => (go_simp; try with_reducible rfl)
      refine anyC_skip (i := 17) (a' := ?a17_40) rfl (by kernel_rfl) (by kernel_rfl) (by kernel_rfl) (fun _ _ _ h => h) h2 (by kernel_rfl) ?f17_40 ?r17_40
      case f17_40 => (go_simp; try with_reducible rfl)
      refine anyC_skip (i := 18) (a' := ?a18_41) rfl (by kernel_rfl) (by kernel_rfl) (by kernel_rfl) (fun _ _ _ h => h) h2 (by kernel_rfl) ?f18_41 ?r18_41
      case f18_41 => (go_simp; try with_reducible rfl)
      refine anyC_skip (i := 19) (a' := ?a19_42) rfl (by kernel_rfl) (by kernel_rfl) (by kernel_rfl) (fun _ _ _ h => h) h2 (by kernel_rfl) ?f19_42 ?r19_42
      case f19_42 => (go_simp; try with_reducible rfl)
      refine anyC_skip (i := 20) (a' := ?a20_43) rfl (by kernel_rfl) (by kernel_rfl) (by kernel_rfl) (fun _ _ _ h => h) h2 (by kernel_rfl) ?f20_43 ?r20_43
      case f20_43 => (go_simp; try with_reducible rfl)
      refine anyC_skip (i := 21) (a' := ?a21_44) rfl (by kernel_rfl) (by kernel_rfl) (by kernel_rfl) (fun _ _ _ h => h) h2 (by kernel_rfl) ?f21_44 ?r21_44
      case f21_44 => (go_simp; try with_reducible rfl)
      refine anyC_skip (i := 22) (a' := ?a22_45) rfl (by kernel_rfl) (by kernel_rfl) (by kernel_rfl) (fun _ _ _ h => h) h2 (by kernel_rfl) ?f22_45 ?r22_45
      case f22_45 => (go_simp; try with_reducible rfl)
      refine anyC_skip (i := 23) (a' := ?a23_46) rfl (by kernel_rfl) (by kernel_rfl) (by kernel_rfl) (fun _ _ _ h => h) h2 (by kernel_rfl) ?f23_46 ?r23_46
      case f23_46 => (go_simp; try with_reducible rfl)
      refine anyC_take (i := 24) (v := ?v24_47) (a' := ?a24_47) rfl (by kernel_rfl) (by kernel_rfl) (by kernel_rfl) (fun _ _ _ h => h) h2 ?w24_47 ?y24_47 ?f24_47 ?r24_47
      case w24_47 => kernel_rfl
      case y24_47 => (intro w hC; go_simp; try with_reducible rfl)
      case f24_47 => (go_simp; try with_reducible rfl)
      refine anyC_take (i := 25) (v := ?v25_48) (a' := ?a25_48) rfl (by kernel_rfl) (by kernel_rfl) (by kernel_rfl) (fun _ _ _ h => h) h2 ?w25_48 ?y25_48 ?f25_48 ?r25_48
      case w25_48 => kernel_rfl
      case y25_48 => (intro w hC; go_simp; try with_reducible rfl)
      case f25_48 => (go_simp; try with_reducible rfl)
      refine anyC_done (by kernel_rfl) ?_
      have hwz := Lib.hid (HWC.out _ h2)
      clear h2 HWC hne HMS HRS
      go_wp2_with (go_at_call 16; fail)
      refine (HGB.out _ hwz.out).mono ?_
      rintro e w8 ⟨l8, rfl, hms8, -, hb8⟩
      have hw8 := Lib.hid (hwz.out.trans (hb8.mono hwz.out.size))
      have hb9 : Below w8.heap.size w8 (w8.alloc (.cells (mvs (Mm.get bs).1 l8).toArray 30)) := (Below.refl _ _).alloc (Nat.le_refl _) _
      have hw9 := Lib.hid (hw8.out.trans (hb9.mono hw8.out.size))
      have HM9 := Lib.hid (hms8.below hb9 (Nat.le_refl _))
      have HR9 := Lib.hid (range_new w8 (mvs (Mm.get bs).1 l8) 30)
      have hz9 : Hid ((w8.alloc (.cells (mvs (Mm.get bs).1 l8).toArray 30)).heap.size = w8.heap.size + 1) := World.size_alloc ..
      have hi : Hid ((Tryd.prog.info? 30).map (·.size) = some (mvs (Mm.get bs).1 l8).length) := info_msg
      have hi2 : Hid ((Tryd.prog.info? 30).map (·.size) = some (mvs (Mm.get bs).1 l8).toArray.size) := info_msg
      have hs : Hid (26 = (mvs (Mm.get bs).1 l8).toArray.size) := rfl
      have ho := Lib.hid (mvs_one (Mm.get bs).1 l8)
      have HN0 : Hid ((mvs (Mm.get bs).1 l8)[0]? = some (.int .i64 (Mm.get bs).1.k)) := rfl
      have HN10 : Hid ((mvs (Mm.get bs).1 l8)[10]? = some (.bool (Mm.get bs).1.has)) := rfl
      have HPZ8 := Lib.hid (HPZ.out l8)
      clear hb8 hms8 hb9 hwz
      unfold mv
      generalize Mm.get bs = Y at *
      obtain ⟨R, hR⟩ : ∃ R, R = mvs Y.1 l8 := ⟨_, rfl⟩
      rw [← hR] at hw9 HM9 HR9 hz9 hi hi2 hs ho HN0 HN10 HPZ8 ⊢
      clear hR
      obtain ⟨-, ⟨h1, h2⟩ | ⟨h1, h2, h3⟩⟩ := HKP.out
      · have hg : (Y.2 != 0) = true := by rw [bne_iff_ne]; exact h2
        rw [h1] at HN0 HN10
        have f0 := range_at HR9.out 0 HN0.out
        have f10 := range_at HR9.out 10 HN10.out
        rw [show Mm.zero.k = 0 from rfl] at f0
        rw [show Mm.zero.has = false from rfl] at f10
        clear h1 h2 HKP
        go_wp2_with ((with_reducible refine wpList_gate ?_); refine wpList_store_new rfl 30 _ _ rfl _ R.toArray rfl rfl hi2.out hs.out ho.out ?_; generalize World.alloc w8 _ = w9 at *)
        go_ret
        exact ⟨rfl, hw9.out⟩
      · have hg : (Y.2 != 0) = false := by rw [h1]; rfl
        have HPUT := Lib.hid (HPZ8.out w8.heap.size _ hw9.out HM9.out (by rw [hz9.out]; omega))
        rw [h3] at HPUT
        clear h1 h2 h3 HKP
        go_wp2_with (first | ((with_reducible refine wpList_gate ?_); refine wpList_store_new rfl 30 _ _ rfl _ R.toArray rfl rfl hi2.out hs.out ho.out ?_; generalize World.alloc w8 _ = w9 at *) | ((with_reducible refine wpList_gate ?_); refine wpList_load_mid rfl 30 _ rfl w8.heap.size 0 rfl R _ HR9.out Tryd.underlying30 rfl hi.out ?_) | (go_at_call 10; fail))
        refine HPUT.out.mono ?_
        rintro e w10 ⟨v10, rfl, hown10, hb10⟩
        obtain ⟨A10, c10, rfl, -, -, hrd10⟩ := own_view hown10
        have hw10 := Lib.hid (hw9.out.trans (hb10.mono hw9.out.size))
        have s1 := str_of (cap := c10) hrd10 rfl
        have s2 := str_of (cap := cap) (HBR.out.below hw10.out) HBL.out
        have hST : ((strOfNums bs).toList == (strOfNums bs).toList) = true := by rw [beq_self_eq_true]
        clear hown10 hb10 hrd10 HPUT
        go_wp2
        go_ret
        exact ⟨rfl, hw10.out⟩
    | true =>
      have hy2 : y.put.2 = 0 := by rw [Mm.put_ok hry]
      have hsm := Mm.back_same HXO.out HYO.out hrx hry
      rw [hy2]
      have hST : Hid (((strOfNums x.put.1).toList == (strOfNums y.put.1).toList) = Mm.same x y) := by
        show _ = _
        rw [str_beq hby1.out hby2.out, hsm]
      clear hy2 hsm hry hrx
      go_wp2_with fail
      refine region_C (fun W => Below w7.heap.size w7 W) (by kernel_rfl) ?_
      have hC : Below w7.heap.size w7 w7.drew := (Below.refl _ _).drew
      have HWC := Lib.hid (fun W (h : Below w7.heap.size w7 W) => HW.out _ (hC7.out.trans (h.mono hz7)))
      refine anyC_take (i := 0) (v := ?v0_49) (a' := ?a0_49) rfl (by kernel_rfl) (by kernel_rfl) (by kernel_rfl) (fun _ _ _ h => h) hC ?w0_49 ?y0_49 ?f0_49 ?r0_49
      case w0_49 => kernel_rfl
      case y0_49 => (intro W hW; exact by refine exec_load 30 (.tmp 3) ?_ w.heap.size ?_ L _ (HRX.out _ (hC7.out.trans (hW.mono hz7))) Tryd.underlying30 rfl HI1.out <;> rfl)
      case f0_49 => (go_simp; try with_reducible rfl)
      refine anyC_take (i := 1) (v := ?v1_50) (a' := ?a1_50) rfl (by kernel_rfl) (by kernel_rfl) (by kernel_rfl) (fun _ _ _ h => h) hC ?w1_50 ?y1_50 ?f1_50 ?r1_50
      case w1_50 => kernel_rfl
      case y1_50 => (intro W hW; exact by refine exec_load 30 (.tmp 4) ?_ (w.heap.size + 1) ?_ M _ (HRY.out _ (hC7.out.trans (hW.mono hz7))) Tryd.underlying30 rfl HI2.out <;> rfl)
      case f1_50 => (go_simp; try with_reducible rfl)
      refine anyC_take (i := 3) (v := ?v3_51) (a' := ?a3_51) rfl (by kernel_rfl) (by kernel_rfl) (by kernel_rfl) (fun _ _ _ h => h) hC ?w3_51 ?y3_51 ?f3_51 ?r3_51
      case w3_51 => kernel_rfl
      case y3_51 => (intro W hW; exact by refine exec_load 30 (.tmp 3) ?_ w.heap.size ?_ L _ (HRX.out _ (hC7.out.trans (hW.mono hz7))) Tryd.underlying30 rfl HI1.out <;> rfl)
      case f3_51 => (go_simp; try with_reducible rfl)
      refine anyC_take (i := 4) (v := ?v4_52) (a' := ?a4_52) rfl (by kernel_rfl) (by kernel_rfl) (by kernel_rfl) (fun _ _ _ h => h) hC ?w4_52 ?y4_52 ?f4_52 ?r4_52
      case w4_52 => kernel_rfl
      case y4_52 => (intro W hW; exact by refine exec_load 30 (.tmp 4) ?_ (w.heap.size + 1) ?_ M _ (HRY.out _ (hC7.out.trans (hW.mono hz7))) Tryd.underlying30 rfl HI2.out <;> rfl)
      case f4_52 => (go_simp; try with_reducible rfl)
      refine anyC_one (i := 2) rfl (by kernel_rfl) (by kernel_rfl) (fun K hK => ?_)
      go_simp
      refine (HMS.out _ (HWC.out _ hC)).mono ?_
      rintro e u1 ⟨rfl, hb⟩
      have h1 : Below w7.heap.size w7 u1 := hC.trans (hb.mono hC.size)
      refine hK _ _ ⟨h1, ?_⟩
      clear hK K hb hC
      refine anyC_one (i := 5) rfl (by kernel_rfl) (by kernel_rfl) (fun K hK => ?_)
      go_simp
      refine (HRS.out _ (HWC.out _ h1)).mono ?_
      rintro e u2 ⟨rfl, hb⟩
      have h2 : Below w7.heap.size w7 u2 := h1.trans (hb.mono h1.size)
      refine hK _ _ ⟨h2, ?_⟩
      clear hK K hb h1
      have hne : (Mm.same x y != Mm.same x y) = false := by simp
      generalize Mm.same x y = sb at *
      have HS3 := Lib.hid (fun W (h : Below w7.heap.size w7 W) => str_of (cap := c3) ((HR34.out.below hk47.out).below (h.mono hz47)) rfl)
      have HS4 := Lib.hid (fun W (h : Below w7.heap.size w7 W) => str_of (cap := c4) ((HR4.out.below hk47.out).below (h.mono hz47)) rfl)
      refine anyC_take (i := 6) (v := ?v6_53) (a' := ?a6_53) rfl (by kernel_rfl) (by kernel_rfl) (by kernel_rfl) (fun _ _ _ h => h) h2 ?w6_53 ?y6_53 ?f6_53 ?r6_53
      case w6_53 => kernel_rfl
      case y6_53 => (intro w hC; go_simp; try with_reducible rfl)
      case f6_53 => (go_simp; try with_reducible rfl)
      refine anyC_take (i := 7) (v := ?v7_54) (a' := ?a7_54) rfl (by kernel_rfl) (by kernel_rfl) (by kernel_rfl) (fun _ _ _ h => h) h2 ?w7_54 ?y7_54 ?f7_54 ?r7_54
      case w7_54 => kernel_rfl
      case y7_54 => (intro w hC; go_simp; try with_reducible rfl)
      case f7_54 => (go_simp; try with_reducible rfl)
      refine anyC_take (i := 8) (v := ?v8_55) (a' := ?a8_55) rfl (by kernel_rfl) (by kernel_rfl) (by kernel_rfl) (fun _ _ _ h => h) h2 ?w8_55 ?y8_55 ?f8_55 ?r8_55
      case w8_55 => kernel_rfl
      case y8_55 => (intro w hC; go_simp; try with_reducible rfl)
      case f8_55 => (go_simp; try with_reducible rfl)
      refine anyC_take (i := 9) (v := ?v9_56) (a' := ?a9_56) rfl (by kernel_rfl) (by kernel_rfl) (by kernel_rfl) (fun _ _ _ h => h) h2 ?w9_56 ?y9_56 ?f9_56 ?r9_56
      case w9_56 => kernel_rfl
      case y9_56 => (intro w hC; go_simp; try with_reducible rfl)
      case f9_56 => (go_simp; try with_reducible rfl)
      refine anyC_take (i := 10) (v := ?v10_57) (a' := ?a10_57) rfl (by kernel_rfl) (by kernel_rfl) (by kernel_rfl) (fun _ _ _ h => h) h2 ?w10_57 ?y10_57 ?f10_57 ?r10_57
      case w10_57 => kernel_rfl
      case y10_57 => (intro w hC; go_simp; try with_reducible rfl)
      case f10_57 => (go_simp; try with_reducible rfl)
      refine anyC_take (i := 11) (v := ?v11_58) (a' := ?a11_58) rfl (by kernel_rfl) (by kernel_rfl) (by kernel_rfl) (fun _ _ _ h => h) h2 ?w11_58 ?y11_58 ?f11_58 ?r11_58
      case w11_58 => kernel_rfl
      case y11_58 => (intro w hC; go_simp; try with_reducible rfl)
      case f11_58 => (go_simp; try with_reducible rfl)
      refine anyC_take (i := 12) (v := ?v12_59) (a' := ?a12_59) rfl (by kernel_rfl) (by kernel_rfl) (by kernel_rfl) (fun _ _ _ h => h) h2 ?w12_59 ?y12_59 ?f12_59 ?r12_59
      case w12_59 => kernel_rfl
      case y12_59 => (intro w hC; go_simp; try with_reducible rfl)
      case f12_59 => (go_simp; try with_reducible rfl)
      refine anyC_take (i := 13) (v := ?v13_60) (a' := ?a13_60) rfl (by kernel_rfl) (by kernel_rfl) (by kernel_rfl) (fun _ _ _ h => h) h2 ?w13_60 ?y13_60 ?f13_60 ?r13_60
      case w13_60 => kernel_rfl
      case y13_60 => (intro w hC; go_simp; try with_reducible rfl)
      case f13_60 => (go_simp; try with_reducible rfl)
      refine anyC_take (i := 14) (v := ?v14_61) (a' := ?a14_61) rfl (by kernel_rfl) (by kernel_rfl) (by kernel_rfl) (fun _ _ _ h => h) h2 ?w14_61 ?y14_61 ?f14_61 ?r14_61
      case w14_61 => kernel_rfl
      case y14_61 => (intro w hC; go_simp; try with_reducible rfl)
      case f14_61 => (go_simp; try with_reducible rfl)
      refine anyC_take (i := 15) (v := ?v15_62) (a' := ?a15_62) rfl (by kernel_rfl) (by kernel_rfl) (by kernel_rfl) (fun _ _ _ h => h) h2 ?w15_62 ?y15_62 ?f15_62 ?r15_62
      case w15_62 => kernel_rfl
      case y15_62 => (intro w hC; go_simp; try with_reducible rfl)
      case f15_62 => (go_simp; try with_reducible rfl)
      refine anyC_take (i := 17) (v := ?v17_63) (a' := ?a17_63) rfl (by kernel_rfl) (by kernel_rfl) (by kernel_rfl) (fun _ _ _ h => h) h2 ?w17_63 ?y17_63 ?f17_63 ?r17_63
      case w17_63 => kernel_rfl
      case y17_63 => (intro w hC; go_simp; try with_reducible rfl)
      case f17_63 => (go_simp; try with_reducible rfl)
      refine anyC_take (i := 16) (v := ?v16_64) (a' := ?a16_64) rfl (by kernel_rfl) (by kernel_rfl) (by kernel_rfl) (fun _ _ _ h => h) h2 ?w16_64 ?y16_64 ?f16_64 ?r16_64
      case w16_64 => kernel_rfl
      case y16_64 => (intro w hC; have h4 := HS3.out w hC; go_simp; try with_reducible rfl)
      case f16_64 => (go_simp; try with_reducible rfl)
      refine anyC_take (i := 18) (v := ?v18_65) (a' := ?a18_65) rfl (by kernel_rfl) (by kernel_rfl) (by kernel_rfl) (fun _ _ _ h => h) h2 ?w18_65 ?y18_65 ?f18_65 ?r18_65
      case w18_65 => kernel_rfl
      case y18_65 => (intro w hC; have h4 := HS4.out w hC; go_simp; try with_reducible rfl)
      case f18_65 => (go_simp; try with_reducible rfl)
      refine anyC_take (i := 19) (v := ?v19_66) (a' := ?a19_66) rfl (by kernel_rfl) (by kernel_rfl) (by kernel_rfl) (fun _ _ _ h => h) h2 ?w19_66 ?y19_66 ?f19_66 ?r19_66
      case w19_66 => kernel_rfl
      case y19_66 => (intro w hC; have h4 := hST.out; go_simp; try with_reducible rfl)
      case f19_66 => (go_simp; try with_reducible rfl)
      refine anyC_take (i := 20) (v := ?v20_67) (a' := ?a20_67) rfl (by kernel_rfl) (by kernel_rfl) (by kernel_rfl) (fun _ _ _ h => h) h2 ?w20_67 ?y20_67 ?f20_67 ?r20_67
      case w20_67 => kernel_rfl
      case y20_67 => (intro W hW; exact by refine exec_load 30 (.tmp 3) ?_ w.heap.size ?_ L _ (HRX.out _ (hC7.out.trans (hW.mono hz7))) Tryd.underlying30 rfl HI1.out <;> rfl)
      case f20_67 => (go_simp; try with_reducible rfl)
      refine anyC_take (i := 21) (v := ?v21_68) (a' := ?a21_68) rfl (by kernel_rfl) (by kernel_rfl) (by kernel_rfl) (fun _ _ _ h => h) h2 ?w21_68 ?y21_68 ?f21_68 ?r21_68
      case w21_68 => kernel_rfl
      case y21_68 => (intro W hW; exact by refine exec_load 30 (.tmp 4) ?_ (w.heap.size + 1) ?_ M _ (HRY.out _ (hC7.out.trans (hW.mono hz7))) Tryd.underlying30 rfl HI2.out <;> rfl)
      case f21_68 => (go_simp; try with_reducible rfl)
      refine anyC_one (i := 22) rfl (by kernel_rfl) (by kernel_rfl) (fun K hK => ?_)
      go_simp
      refine (HRS.out _ (HWC.out _ h2)).mono ?_
      rintro e u3 ⟨rfl, hb⟩
      have h3 : Below w7.heap.size w7 u3 := h2.trans (hb.mono h2.size)
      refine hK _ _ ⟨h3, ?_⟩
      clear hK K hb h2 HS3 HS4
      refine anyC_take (i := 23) (v := ?v23_69) (a' := ?a23_69) rfl (by kernel_rfl) (by kernel_rfl) (by kernel_rfl) (fun _ _ _ h => h) h3 ?w23_69 ?y23_69 ?f23_69 ?r23_69
      case w23_69 => kernel_rfl
      case y23_69 => (intro w hC; go_simp; try with_reducible rfl)
      case f23_69 => (go_simp; try with_reducible rfl)
      refine anyC_take (i := 24) (v := ?v24_70) (a' := ?a24_70) rfl (by kernel_rfl) (by kernel_rfl) (by kernel_rfl) (fun _ _ _ h => h) h3 ?w24_70 ?y24_70 ?f24_70 ?r24_70
      case w24_70 => kernel_rfl
      case y24_70 => (intro w hC; go_simp; try with_reducible rfl)
      case f24_70 => (go_simp; try with_reducible rfl)
      refine anyC_take (i := 25) (v := ?v25_71) (a' := ?a25_71) rfl (by kernel_rfl) (by kernel_rfl) (by kernel_rfl) (fun _ _ _ h => h) h3 ?w25_71 ?y25_71 ?f25_71 ?r25_71
      case w25_71 => kernel_rfl
      case y25_71 => (intro w hC; go_simp; try with_reducible rfl)
      case f25_71 => (go_simp; try with_reducible rfl)
      refine anyC_done (by kernel_rfl) ?_
      have hwz := Lib.hid (HWC.out _ h3)
      clear h3 HWC hne HMS HRS
      clear hST
      go_wp2_with (go_at_call 16; fail)
      refine (HGB.out _ hwz.out).mono ?_
      rintro e w8 ⟨l8, rfl, hms8, -, hb8⟩
      have hw8 := Lib.hid (hwz.out.trans (hb8.mono hwz.out.size))
      have hb9 : Below w8.heap.size w8 (w8.alloc (.cells (mvs (Mm.get bs).1 l8).toArray 30)) := (Below.refl _ _).alloc (Nat.le_refl _) _
      have hw9 := Lib.hid (hw8.out.trans (hb9.mono hw8.out.size))
      have HM9 := Lib.hid (hms8.below hb9 (Nat.le_refl _))
      have HR9 := Lib.hid (range_new w8 (mvs (Mm.get bs).1 l8) 30)
      have hz9 : Hid ((w8.alloc (.cells (mvs (Mm.get bs).1 l8).toArray 30)).heap.size = w8.heap.size + 1) := World.size_alloc ..
      have hi : Hid ((Tryd.prog.info? 30).map (·.size) = some (mvs (Mm.get bs).1 l8).length) := info_msg
      have hi2 : Hid ((Tryd.prog.info? 30).map (·.size) = some (mvs (Mm.get bs).1 l8).toArray.size) := info_msg
      have hs : Hid (26 = (mvs (Mm.get bs).1 l8).toArray.size) := rfl
      have ho := Lib.hid (mvs_one (Mm.get bs).1 l8)
      have HN0 : Hid ((mvs (Mm.get bs).1 l8)[0]? = some (.int .i64 (Mm.get bs).1.k)) := rfl
      have HN10 : Hid ((mvs (Mm.get bs).1 l8)[10]? = some (.bool (Mm.get bs).1.has)) := rfl
      have HPZ8 := Lib.hid (HPZ.out l8)
      clear hb8 hms8 hb9 hwz
      unfold mv
      generalize Mm.get bs = Y at *
      obtain ⟨R, hR⟩ : ∃ R, R = mvs Y.1 l8 := ⟨_, rfl⟩
      rw [← hR] at hw9 HM9 HR9 hz9 hi hi2 hs ho HN0 HN10 HPZ8 ⊢
      clear hR
      obtain ⟨-, ⟨h1, h2⟩ | ⟨h1, h2, h3⟩⟩ := HKP.out
      · have hg : (Y.2 != 0) = true := by rw [bne_iff_ne]; exact h2
        rw [h1] at HN0 HN10
        have f0 := range_at HR9.out 0 HN0.out
        have f10 := range_at HR9.out 10 HN10.out
        rw [show Mm.zero.k = 0 from rfl] at f0
        rw [show Mm.zero.has = false from rfl] at f10
        clear h1 h2 HKP
        go_wp2_with ((with_reducible refine wpList_gate ?_); refine wpList_store_new rfl 30 _ _ rfl _ R.toArray rfl rfl hi2.out hs.out ho.out ?_; generalize World.alloc w8 _ = w9 at *)
        go_ret
        exact ⟨rfl, hw9.out⟩
      · have hg : (Y.2 != 0) = false := by rw [h1]; rfl
        have HPUT := Lib.hid (HPZ8.out w8.heap.size _ hw9.out HM9.out (by rw [hz9.out]; omega))
        rw [h3] at HPUT
        clear h1 h2 h3 HKP
        go_wp2_with (first | ((with_reducible refine wpList_gate ?_); refine wpList_store_new rfl 30 _ _ rfl _ R.toArray rfl rfl hi2.out hs.out ho.out ?_; generalize World.alloc w8 _ = w9 at *) | ((with_reducible refine wpList_gate ?_); refine wpList_load_mid rfl 30 _ rfl w8.heap.size 0 rfl R _ HR9.out Tryd.underlying30 rfl hi.out ?_) | (go_at_call 10; fail))
        refine HPUT.out.mono ?_
        rintro e w10 ⟨v10, rfl, hown10, hb10⟩
        obtain ⟨A10, c10, rfl, -, -, hrd10⟩ := own_view hown10
        have hw10 := Lib.hid (hw9.out.trans (hb10.mono hw9.out.size))
        have s1 := str_of (cap := c10) hrd10 rfl
        have s2 := str_of (cap := cap) (HBR.out.below hw10.out) HBL.out
        have hST : ((strOfNums bs).toList == (strOfNums bs).toList) = true := by rw [beq_self_eq_true]
        clear hown10 hb10 hrd10 HPUT
        go_wp2
        go_ret
        exact ⟨rfl, hw10.out⟩
end Go.Proofs.YtpgfnhdaembhmaaDoor
