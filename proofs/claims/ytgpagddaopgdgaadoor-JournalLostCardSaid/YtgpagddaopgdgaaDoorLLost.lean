/- JournalLost, walked. -/
import Derived.Test.YtgpagddaopgdgaaDoorJr
namespace Go.Proofs.YtgpagddaopgdgaaDoor
open Go.RowKit Go.Shelf Km

namespace Jm
/-- whole frames, and less than one behind them: the frames are told, and what is behind them is cut off -/
theorem opn_part {fs : List (Int × List Int)} (h : ∀ f ∈ fs, f.2.length ≤ 8192) {t : List Int} (ht : Fm.al t = []) (r : List Int) (d : Bool) : opn ⟨Fm.cat fs ++ t, r, -1, d⟩ = (⟨Fm.cat fs, [], -1, false⟩, fs, 0) := by
  have e : Fm.al (Fm.cat fs ++ t) = fs := by rw [Fm.al_cat fs t h, ht, List.append_nil]
  have ew : whole ⟨Fm.cat fs ++ t, r, -1, d⟩ = (Fm.cat fs).length := by
    unfold whole
    dsimp only
    rw [e]
  have eu : eff (up ⟨Fm.cat fs ++ t, r, -1, d⟩) = (up ⟨Fm.cat fs ++ t, r, -1, d⟩, 0) := eff_none rfl (by show (-1 : Int) < 0; decide)
  by_cases hw : whole ⟨Fm.cat fs ++ t, r, -1, d⟩ < (Fm.cat fs ++ t).length
  · rw [opn_cut (s := ⟨Fm.cat fs ++ t, r, -1, d⟩) hw (by rw [eu]), eu, ew]
    dsimp only
    rw [e, List.take_left]
    rfl
  · have ht0 : t = [] := by
      rw [ew, List.length_append] at hw
      exact List.eq_nil_of_length_eq_zero (by omega)
    subst ht0
    rw [List.append_nil]
    exact opn_whole h r (-1) d
theorem opn_lost {k k' : Int} {b c : List Int} (hb : b.length ≤ 8192) (hc : c.length ≤ 8192) {p : Nat} (hp : p < c.length + 8) (r : List Int) (d : Bool) : opn ⟨Fm.frm k b ++ (Fm.frm k' c).take p, r, -1, d⟩ = (⟨Fm.frm k b, [], -1, false⟩, [(k, b)], 0) := by
  have h := opn_part (fs := [(k, b)]) (by intro f hf; rw [List.mem_singleton] at hf; subst hf; exact hb) (t := (Fm.frm k' c).take p) (Fm.al_none (Fm.g1_cut hc hp)) r d
  rw [cat_one] at h
  exact h
theorem part_lt (s : St) {n : Int} {m : Nat} (h : n < (m : Int)) (h0 : 0 < m) : part s n < m := by
  unfold part
  split
  · exact h0
  · split <;> omega
end Jm

set_option maxRecDepth 100000 in
set_option maxHeartbeats 4000000 in
theorem lost_walk (a0 : Int) (a1 : Option Addr) (len1 cap1 : Nat) (z1 : List Int) (a2 : Option Addr) (len2 cap2 : Nat) (z2 : List Int) (a3 : Int) (a4 : Bool) (w : World) (w0 : (Lit.int .u8 a0).wf = true) (w1 : RowOf .u8 w a1 len1 cap1 z1) (w2 : RowOf .u8 w a2 len2 cap2 z2) (w3 : (Lit.int .i64 a3).wf = true)
    (t0 : TabAt w) :
    Calls Tryd.prog 6 #[.int .u8 a0, .slice a1 len1 cap1, .slice a2 len2 cap2, .int .i64 a3, .bool a4] w fun e w' => e = .returned (.bool true) ∧ Below w.heap.size w w' := by
  have b0 : 0 ≤ a0 ∧ a0 ≤ 255 := by simpa [Lit.wf, IntKind.min, IntKind.max, IntKind.signed, IntKind.bits] using w0
  have b3 := wf_i64 w3
  obtain ⟨xs, hn1, hc1, hm1, hr1, hw1⟩ := row_rd w1
  obtain ⟨ys, hn2, hc2, hm2, hr2, hw2⟩ := row_rd w2
  have HX := Lib.hid hr1
  have HY := Lib.hid hr2
  have HBX := Lib.hid (wf_u8 hw1)
  have HBY := Lib.hid (wf_u8 hw2)
  have HNX := Lib.hid hn1
  have HNY := Lib.hid hn2
  have HT := Lib.hid t0.tab
  clear w0 w1 w2 w3 hw1 hw2 hr1 hr2 hn1 hn2 t0
  go_enter Tryd.func6, Tryd.ntmps6
  go_wp2_with (go_at_call 8; refine (head_any _ HT.out).mono ?_; rintro e w1 ⟨rfl, hb1⟩)
  refine (new_own w w1 hb1).mono ?_
  rintro e w2 ⟨rfl, j2⟩
  clear hb1
  generalize w1.heap.size = g at *
  have hB2 := j2.bel.size
  have H2 := Lib.hid (append_own j2 HT.out a0 a1 len1 cap1 w.heap.size xs b0 (HX.out.below j2.bel) HNX.out hc1 hm1 hB2 HBX.out (by decide))
  by_cases hl1 : 8192 < xs.length
  · rw [Jm.append_many hl1] at H2
    have HJ := Lib.hid j2
    rw [HNX.out] at hl1
    have hl1' : (8192 : Int) < (len1 : Int) := by omega
    clear j2
    go_wp2_with (go_at_call 12; refine H2.out.mono ?_; rintro e w3 ⟨rfl, j3⟩)
    go_ret
    exact ⟨rfl, j3.bel⟩
  have hl1' : xs.length ≤ 8192 := by omega
  rw [Jm.append_new hl1'] at H2
  dsimp only at H2
  clear j2
  have HF1 := Lib.hid (Fm.frm_len a0 xs)
  have HF2 := Lib.hid (Fm.frm_len a0 ys)
  have hz1 : Jm.size ⟨[], Fm.frm a0 xs, -1, false⟩ ≤ 16777216 := by show _ + _ ≤ _; rw [HF1.out, List.length_nil]; omega
  go_wp2_with (go_at_call 12; refine H2.out.mono ?_; rintro e w3 ⟨rfl, j3⟩)
  have H3 := Lib.hid (sync_own j3 hz1)
  rw [Jm.sync_up, List.nil_append] at H3
  dsimp only at H3
  clear j3
  refine H3.out.mono ?_
  rintro e w4 ⟨rfl, j4⟩
  have hB4 := j4.bel.size
  have hz2 : Jm.size ⟨Fm.frm a0 xs, [], -1, false⟩ ≤ 16777216 := by show _ + _ ≤ _; rw [HF1.out, List.length_nil]; omega
  have H4 := Lib.hid (append_own j4 HT.out a0 a2 len2 cap2 w.heap.size ys b0 (HY.out.below j4.bel) HNY.out hc2 hm2 hB4 HBY.out hz2)
  by_cases hl2 : 8192 < ys.length
  · rw [Jm.append_many hl2] at H4
    have hl2a : 8192 < len2 := by rw [← HNY.out]; exact hl2
    have hl2' : (8192 : Int) < (len2 : Int) := by omega
    clear j4 hl2
    go_wp2_with (go_at_call 12; refine H4.out.mono ?_; rintro e w5 ⟨rfl, j5⟩)
    go_ret
    exact ⟨rfl, j5.bel⟩
  have hl2' : ys.length ≤ 8192 := by omega
  rw [Jm.append_up hl2', List.nil_append] at H4
  dsimp only at H4
  clear j4
  cases a4 with
  | false =>
    go_wp2_with (go_at_call 12; refine H4.out.mono ?_; rintro e w6 ⟨rfl, j6⟩)
    have hop : Jm.opn ⟨Fm.frm a0 xs, Fm.frm a0 ys, -1, false⟩ = (⟨Fm.frm a0 xs, [], -1, false⟩, [(a0, xs)], 0) := by
      have h := Jm.opn_whole (fs := [(a0, xs)]) (by intro f hf; rw [List.mem_singleton] at hf; subst hf; exact hl1') (Fm.frm a0 ys) (-1) false
      rw [Jm.cat_one] at h
      exact h
    have H6 := Lib.hid (open_own j6 HT.out (by show _ + _ ≤ _; rw [HF1.out, HF2.out]; omega))
    have HB6 := Lib.hid j6.bel
    rw [hop] at H6
    dsimp only at H6
    clear j6
    refine H6.out.mono ?_
    rintro e w7 ⟨kk, bb, rfl, told, j7⟩
    obtain ⟨Ak, ck, vs, Ab, cb, rfl, rfl, -, -, hrk, hrd, hbd⟩ := told.outF
    obtain ⟨v, hv⟩ : ∃ v, vs[0]? = some v := ⟨vs[0]'(by rw [hbd.1]; exact Nat.one_pos), List.getElem?_eq_getElem _⟩
    obtain ⟨adk, rfl, hak, hclk⟩ := hrk 0 _ rfl
    obtain ⟨ad, rfl, hab, hcl⟩ := hrd 0 v hv
    obtain ⟨Av, cv, rfl, -, -, hrb⟩ := hbd.2 0 v xs hv rfl
    have HB7 := Lib.hid j7.bel
    have hz7 : Jm.size ⟨Fm.frm a0 xs, [], -1, false⟩ ≤ 16777216 := hz2
    rw [Addr.add_zero'] at hcl hclk
    have HK := Lib.hid (fun (W : World) (q : Below w7.heap.size w7 W) => (q.cell (p := adk) hak).trans hclk)
    have HD := Lib.hid (fun (W : World) (q : Below w7.heap.size w7 W) => (q.cell (p := ad) hab).trans hcl)
    have HS := Lib.hid (fun (W : World) (q : Below w7.heap.size w7 W) => str_of (cap := cv) (hrb.below q) rfl)
    have HSX := Lib.hid (fun (W : World) (q : Below w7.heap.size w7 W) => str_of (cap := cap1) ((HX.out.below HB7.out).below (q.mono HB7.out.size)) HNX.out)
    have HE := Lib.hid (str_beq HBX.out HBX.out)
    have HSY := Lib.hid (fun (W : World) (q : Below w7.heap.size w7 W) => by
      have := synced_own (j7.below q) hz7
      rw [show (Fm.frm a0 xs).length = len1 + 8 by rw [HF1.out, HNX.out]] at this
      exact this)
    have hL1 : IntKind.i64.wrap ((len1 : Int) + 8) = (len1 : Int) + 8 := IntWalk.i64_in _ (by rw [HNX.out] at hl1'; omega)
    clear told hrk hrd hbd hv hcl hclk hrb j7 hak hab
    go_wp2_with fail
    refine region_C (fun W => Below w7.heap.size w7 W) (by kernel_rfl) ?_
    have hC : Below w7.heap.size w7 w7.drew := (Below.refl _ _).drew
    refine anyC_take (i := 0) (v := ?v0_1) (a' := ?a0_1) rfl (by kernel_rfl) (by kernel_rfl) (by kernel_rfl) (fun _ _ _ h => h) hC ?w0_1 ?y0_1 ?f0_1 ?r0_1
    case w0_1 => kernel_rfl
    case y0_1 => (intro w hC; go_simp; try with_reducible rfl)
    case f0_1 => (go_simp; try with_reducible rfl)
    refine anyC_take (i := 1) (v := ?v1_2) (a' := ?a1_2) rfl (by kernel_rfl) (by kernel_rfl) (by kernel_rfl) (fun _ _ _ h => h) hC ?w1_2 ?y1_2 ?f1_2 ?r1_2
    case w1_2 => kernel_rfl
    case y1_2 => (intro w hC; go_simp; try with_reducible rfl)
    case f1_2 => (go_simp; try with_reducible rfl)
    refine anyC_take (i := 2) (v := ?v2_3) (a' := ?a2_3) rfl (by kernel_rfl) (by kernel_rfl) (by kernel_rfl) (fun _ _ _ h => h) hC ?w2_3 ?y2_3 ?f2_3 ?r2_3
    case w2_3 => kernel_rfl
    case y2_3 => (intro w hC; go_simp; try with_reducible rfl)
    case f2_3 => (go_simp; try with_reducible rfl)
    refine anyC_take (i := 3) (v := ?v3_4) (a' := ?a3_4) rfl (by kernel_rfl) (by kernel_rfl) (by kernel_rfl) (fun _ _ _ h => h) hC ?w3_4 ?y3_4 ?f3_4 ?r3_4
    case w3_4 => kernel_rfl
    case y3_4 => (intro w hC; go_simp; try with_reducible rfl)
    case f3_4 => (go_simp; try with_reducible rfl)
    refine anyC_take (i := 4) (v := ?v4_5) (a' := ?a4_5) rfl (by kernel_rfl) (by kernel_rfl) (by kernel_rfl) (fun _ _ _ h => h) hC ?w4_5 ?y4_5 ?f4_5 ?r4_5
    case w4_5 => kernel_rfl
    case y4_5 => (intro w hC; go_simp; try with_reducible rfl)
    case f4_5 => (go_simp; try with_reducible rfl)
    refine anyC_take (i := 5) (v := ?v5_6) (a' := ?a5_6) rfl (by kernel_rfl) (by kernel_rfl) (by kernel_rfl) (fun _ _ _ h => h) hC ?w5_6 ?y5_6 ?f5_6 ?r5_6
    case w5_6 => kernel_rfl
    case y5_6 => (intro w hC; go_simp; try with_reducible rfl)
    case f5_6 => (go_simp; try with_reducible rfl)
    refine anyC_take (i := 6) (v := ?v6_7) (a' := ?a6_7) rfl (by kernel_rfl) (by kernel_rfl) (by kernel_rfl) (fun _ _ _ h => h) hC ?w6_7 ?y6_7 ?f6_7 ?r6_7
    case w6_7 => kernel_rfl
    case y6_7 => (intro w hC; go_simp; try with_reducible rfl)
    case f6_7 => (go_simp; try with_reducible rfl)
    refine anyC_take (i := 7) (v := ?v7_8) (a' := ?a7_8) rfl (by kernel_rfl) (by kernel_rfl) (by kernel_rfl) (fun _ _ _ h => h) hC ?w7_8 ?y7_8 ?f7_8 ?r7_8
    case w7_8 => kernel_rfl
    case y7_8 => (intro w hC; go_simp; try with_reducible rfl)
    case f7_8 => (go_simp; try with_reducible rfl)
    refine anyC_take (i := 8) (v := ?v8_9) (a' := ?a8_9) rfl (by kernel_rfl) (by kernel_rfl) (by kernel_rfl) (fun _ _ _ h => h) hC ?w8_9 ?y8_9 ?f8_9 ?r8_9
    case w8_9 => kernel_rfl
    case y8_9 => (intro w hC; go_simp; try with_reducible rfl)
    case f8_9 => (go_simp; try with_reducible rfl)
    refine anyC_take (i := 9) (v := ?v9_10) (a' := ?a9_10) rfl (by kernel_rfl) (by kernel_rfl) (by kernel_rfl) (fun _ _ _ h => h) hC ?w9_10 ?y9_10 ?f9_10 ?r9_10
    case w9_10 => kernel_rfl
    case y9_10 => (intro w hC; go_simp; try with_reducible rfl)
    case f9_10 => (go_simp; try with_reducible rfl)
    refine anyC_take (i := 10) (v := ?v10_11) (a' := ?a10_11) rfl (by kernel_rfl) (by kernel_rfl) (by kernel_rfl) (fun _ _ _ h => h) hC ?w10_11 ?y10_11 ?f10_11 ?r10_11
    case w10_11 => kernel_rfl
    case y10_11 => (intro w hC; go_simp; try with_reducible rfl)
    case f10_11 => (go_simp; try with_reducible rfl)
    refine anyC_take (i := 11) (v := ?v11_12) (a' := ?a11_12) rfl (by kernel_rfl) (by kernel_rfl) (by kernel_rfl) (fun _ _ _ h => h) hC ?w11_12 ?y11_12 ?f11_12 ?r11_12
    case w11_12 => kernel_rfl
    case y11_12 => (intro w hC; go_simp; try with_reducible rfl)
    case f11_12 => (go_simp; try with_reducible rfl)
    refine anyC_take (i := 12) (v := ?v12_13) (a' := ?a12_13) rfl (by kernel_rfl) (by kernel_rfl) (by kernel_rfl) (fun _ _ _ h => h) hC ?w12_13 ?y12_13 ?f12_13 ?r12_13
    case w12_13 => kernel_rfl
    case y12_13 => (intro w hC; go_simp; try with_reducible rfl)
    case f12_13 => (go_simp; try with_reducible rfl)
    refine anyC_take (i := 13) (v := ?v13_14) (a' := ?a13_14) rfl (by kernel_rfl) (by kernel_rfl) (by kernel_rfl) (fun _ _ _ h => h) hC ?w13_14 ?y13_14 ?f13_14 ?r13_14
    case w13_14 => kernel_rfl
    case y13_14 => (intro w hC; go_simp; try with_reducible rfl)
    case f13_14 => (go_simp; try with_reducible rfl)
    refine anyC_take (i := 14) (v := ?v14_15) (a' := ?a14_15) rfl (by kernel_rfl) (by kernel_rfl) (by kernel_rfl) (fun _ _ _ h => h) hC ?w14_15 ?y14_15 ?f14_15 ?r14_15
    case w14_15 => kernel_rfl
    case y14_15 => (intro w hC; go_simp; try with_reducible rfl)
    case f14_15 => (go_simp; try with_reducible rfl)
    refine anyC_take (i := 15) (v := ?v15_16) (a' := ?a15_16) rfl (by kernel_rfl) (by kernel_rfl) (by kernel_rfl) (fun _ _ _ h => h) hC ?w15_16 ?y15_16 ?f15_16 ?r15_16
    case w15_16 => kernel_rfl
    case y15_16 => (intro w hC; have h4 := HK.out w hC; go_simp; try with_reducible rfl)
    case f15_16 => (go_simp; try with_reducible rfl)
    refine anyC_take (i := 16) (v := ?v16_17) (a' := ?a16_17) rfl (by kernel_rfl) (by kernel_rfl) (by kernel_rfl) (fun _ _ _ h => h) hC ?w16_17 ?y16_17 ?f16_17 ?r16_17
    case w16_17 => kernel_rfl
    case y16_17 => (intro w hC; go_simp; try with_reducible rfl)
    case f16_17 => (go_simp; try with_reducible rfl)
    refine anyC_take (i := 17) (v := ?v17_18) (a' := ?a17_18) rfl (by kernel_rfl) (by kernel_rfl) (by kernel_rfl) (fun _ _ _ h => h) hC ?w17_18 ?y17_18 ?f17_18 ?r17_18
    case w17_18 => kernel_rfl
    case y17_18 => (intro w hC; go_simp; try with_reducible rfl)
    case f17_18 => (go_simp; try with_reducible rfl)
    refine anyC_take (i := 18) (v := ?v18_19) (a' := ?a18_19) rfl (by kernel_rfl) (by kernel_rfl) (by kernel_rfl) (fun _ _ _ h => h) hC ?w18_19 ?y18_19 ?f18_19 ?r18_19
    case w18_19 => kernel_rfl
    case y18_19 => (intro w hC; go_simp; try with_reducible rfl)
    case f18_19 => (go_simp; try with_reducible rfl)
    refine anyC_take (i := 19) (v := ?v19_20) (a' := ?a19_20) rfl (by kernel_rfl) (by kernel_rfl) (by kernel_rfl) (fun _ _ _ h => h) hC ?w19_20 ?y19_20 ?f19_20 ?r19_20
    case w19_20 => kernel_rfl
    case y19_20 => (intro w hC; go_simp; try with_reducible rfl)
    case f19_20 => (go_simp; try with_reducible rfl)
    refine anyC_take (i := 20) (v := ?v20_21) (a' := ?a20_21) rfl (by kernel_rfl) (by kernel_rfl) (by kernel_rfl) (fun _ _ _ h => h) hC ?w20_21 ?y20_21 ?f20_21 ?r20_21
    case w20_21 => kernel_rfl
    case y20_21 => (intro w hC; go_simp; try with_reducible rfl)
    case f20_21 => (go_simp; try with_reducible rfl)
    refine anyC_take (i := 21) (v := ?v21_22) (a' := ?a21_22) rfl (by kernel_rfl) (by kernel_rfl) (by kernel_rfl) (fun _ _ _ h => h) hC ?w21_22 ?y21_22 ?f21_22 ?r21_22
    case w21_22 => kernel_rfl
    case y21_22 => (intro w hC; go_simp; try with_reducible rfl)
    case f21_22 => (go_simp; try with_reducible rfl)
    refine anyC_take (i := 22) (v := ?v22_23) (a' := ?a22_23) rfl (by kernel_rfl) (by kernel_rfl) (by kernel_rfl) (fun _ _ _ h => h) hC ?w22_23 ?y22_23 ?f22_23 ?r22_23
    case w22_23 => kernel_rfl
    case y22_23 => (intro w hC; have h4 := HD.out w hC; go_simp; try with_reducible rfl)
    case f22_23 => (go_simp; try with_reducible rfl)
    refine anyC_take (i := 23) (v := ?v23_24) (a' := ?a23_24) rfl (by kernel_rfl) (by kernel_rfl) (by kernel_rfl) (fun _ _ _ h => h) hC ?w23_24 ?y23_24 ?f23_24 ?r23_24
    case w23_24 => kernel_rfl
    case y23_24 => (intro w hC; have h4 := HS.out w hC; go_simp; try with_reducible rfl)
    case f23_24 => (go_simp; try with_reducible rfl)
    refine anyC_take (i := 24) (v := ?v24_25) (a' := ?a24_25) rfl (by kernel_rfl) (by kernel_rfl) (by kernel_rfl) (fun _ _ _ h => h) hC ?w24_25 ?y24_25 ?f24_25 ?r24_25
    case w24_25 => kernel_rfl
    case y24_25 => (intro w hC; go_simp; try with_reducible rfl)
    case f24_25 => (go_simp; try with_reducible rfl)
    refine anyC_take (i := 25) (v := ?v25_26) (a' := ?a25_26) rfl (by kernel_rfl) (by kernel_rfl) (by kernel_rfl) (fun _ _ _ h => h) hC ?w25_26 ?y25_26 ?f25_26 ?r25_26
    case w25_26 => kernel_rfl
    case y25_26 => (intro w hC; have h4 := HSX.out w hC; go_simp; try with_reducible rfl)
    case f25_26 => (go_simp; try with_reducible rfl)
    refine anyC_take (i := 26) (v := ?v26_27) (a' := ?a26_27) rfl (by kernel_rfl) (by kernel_rfl) (by kernel_rfl) (fun _ _ _ h => h) hC ?w26_27 ?y26_27 ?f26_27 ?r26_27
    case w26_27 => kernel_rfl
    case y26_27 => (intro w hC; go_simp; try with_reducible rfl)
    case f26_27 => (go_simp; try with_reducible rfl)
    refine anyC_take (i := 27) (v := ?v27_28) (a' := ?a27_28) rfl (by kernel_rfl) (by kernel_rfl) (by kernel_rfl) (fun _ _ _ h => h) hC ?w27_28 ?y27_28 ?f27_28 ?r27_28
    case w27_28 => kernel_rfl
    case y27_28 => (intro w hC; go_simp; try with_reducible rfl)
    case f27_28 => (go_simp; try with_reducible rfl)
    refine anyC_take (i := 28) (v := ?v28_29) (a' := ?a28_29) rfl (by kernel_rfl) (by kernel_rfl) (by kernel_rfl) (fun _ _ _ h => h) hC ?w28_29 ?y28_29 ?f28_29 ?r28_29
    case w28_29 => kernel_rfl
    case y28_29 => (intro w hC; go_simp; try with_reducible rfl)
    case f28_29 => (go_simp; try with_reducible rfl)
    refine anyC_take (i := 29) (v := ?v29_30) (a' := ?a29_30) rfl (by kernel_rfl) (by kernel_rfl) (by kernel_rfl) (fun _ _ _ h => h) hC ?w29_30 ?y29_30 ?f29_30 ?r29_30
    case w29_30 => kernel_rfl
    case y29_30 => (intro w hC; go_simp; try with_reducible rfl)
    case f29_30 => (go_simp; try with_reducible rfl)
    refine anyC_take (i := 32) (v := ?v32_31) (a' := ?a32_31) rfl (by kernel_rfl) (by kernel_rfl) (by kernel_rfl) (fun _ _ _ h => h) hC ?w32_31 ?y32_31 ?f32_31 ?r32_31
    case w32_31 => kernel_rfl
    case y32_31 => (intro w hC; go_simp; try with_reducible rfl)
    case f32_31 => (go_simp; try with_reducible rfl)
    refine anyC_take (i := 33) (v := ?v33_32) (a' := ?a33_32) rfl (by kernel_rfl) (by kernel_rfl) (by kernel_rfl) (fun _ _ _ h => h) hC ?w33_32 ?y33_32 ?f33_32 ?r33_32
    case w33_32 => kernel_rfl
    case y33_32 => (intro w hC; go_simp; try with_reducible rfl)
    case f33_32 => (go_simp; try with_reducible rfl)
    refine anyC_take (i := 34) (v := ?v34_33) (a' := ?a34_33) rfl (by kernel_rfl) (by kernel_rfl) (by kernel_rfl) (fun _ _ _ h => h) hC ?w34_33 ?y34_33 ?f34_33 ?r34_33
    case w34_33 => kernel_rfl
    case y34_33 => (intro w hC; go_simp; try with_reducible rfl)
    case f34_33 => (go_simp; try with_reducible rfl)
    refine anyC_one (i := 30) rfl (by kernel_rfl) (by kernel_rfl) (fun K hK => ?_)
    go_simp
    refine (HSY.out _ hC).mono ?_
    rintro e w8 ⟨v8, rfl, hown, hb8⟩
    obtain ⟨A8, c8, rfl, -, -, -⟩ := own_view hown
    have hC8 : Below w7.heap.size w7 w8 := hC.trans (hb8.mono (by exact Nat.le_refl _))
    refine hK _ _ ⟨hC8, ?_⟩
    clear hK K hown hb8
    refine anyC_take (i := 31) (v := ?v31_34) (a' := ?a31_34) rfl (by kernel_rfl) (by kernel_rfl) (by kernel_rfl) (fun _ _ _ h => h) hC8 ?w31_34 ?y31_34 ?f31_34 ?r31_34
    case w31_34 => kernel_rfl
    case y31_34 => (intro w hC; go_simp; try with_reducible rfl)
    case f31_34 => (go_simp; try with_reducible rfl)
    refine anyC_take (i := 35) (v := ?v35_35) (a' := ?a35_35) rfl (by kernel_rfl) (by kernel_rfl) (by kernel_rfl) (fun _ _ _ h => h) hC8 ?w35_35 ?y35_35 ?f35_35 ?r35_35
    case w35_35 => kernel_rfl
    case y35_35 => (intro w hC; go_simp; try with_reducible rfl)
    case f35_35 => (go_simp; try with_reducible rfl)
    refine anyC_take (i := 36) (v := ?v36_36) (a' := ?a36_36) rfl (by kernel_rfl) (by kernel_rfl) (by kernel_rfl) (fun _ _ _ h => h) hC8 ?w36_36 ?y36_36 ?f36_36 ?r36_36
    case w36_36 => kernel_rfl
    case y36_36 => (intro w hC; go_simp; try with_reducible rfl)
    case f36_36 => (go_simp; try with_reducible rfl)
    refine anyC_take (i := 37) (v := ?v37_37) (a' := ?a37_37) rfl (by kernel_rfl) (by kernel_rfl) (by kernel_rfl) (fun _ _ _ h => h) hC8 ?w37_37 ?y37_37 ?f37_37 ?r37_37
    case w37_37 => kernel_rfl
    case y37_37 => (intro w hC; go_simp; try with_reducible rfl)
    case f37_37 => (go_simp; try with_reducible rfl)
    refine anyC_done (by kernel_rfl) ?_
    go_wp2
    go_ret
    exact ⟨rfl, HB7.out.trans (hC8.mono HB7.out.size)⟩
  | true =>
    have H5 := Lib.hid (fun (W : World) (j : Own w W g ⟨Fm.frm a0 xs, Fm.frm a0 ys, -1, false⟩) (n : Int) => crash_own j n (by show _ + _ ≤ _; rw [HF1.out, HF2.out]; omega))
    have HO : Hid (∀ n : Int, n < ((ys.length + 8 : Nat) : Int) → Jm.opn (Jm.crash ⟨Fm.frm a0 xs, Fm.frm a0 ys, -1, false⟩ n) = (⟨Fm.frm a0 xs, [], -1, false⟩, [(a0, xs)], 0)) := fun n hn =>
      Jm.opn_lost hl1' hl2' (Jm.part_lt _ hn (by omega)) [] true
    have HZ : Hid (∀ n : Int, Jm.size (Jm.crash ⟨Fm.frm a0 xs, Fm.frm a0 ys, -1, false⟩ n) ≤ 4194304) := fun n => Nat.le_trans (Jm.size_crash _ n) (by show _ + _ ≤ _; rw [HF1.out, HF2.out]; omega)
    have hL2 : IntKind.i64.wrap ((len2 : Int) + 7) = (len2 : Int) + 7 := IntWalk.i64_in _ (by rw [HNY.out] at hl2'; omega)
    go_wp2_with (first | (go_at_call 12; refine H4.out.mono ?_; rintro e w5 ⟨rfl, j5⟩) | (go_at_call 20; refine (H5.out _ j5 _).mono ?_; rintro e w6 ⟨rfl, j6⟩))
    · have H6 := Lib.hid (open_own j6 HT.out (HZ.out _))
      have HB6 := Lib.hid j6.bel
      rw [HO.out _ (by have := HNY.out; split <;> omega)] at H6
      dsimp only at H6
      clear j6
      refine H6.out.mono ?_
      rintro e w7 ⟨kk, bb, rfl, told, j7⟩
      obtain ⟨Ak, ck, vs, Ab, cb, rfl, rfl, -, -, hrk, hrd, hbd⟩ := told.outF
      obtain ⟨v, hv⟩ : ∃ v, vs[0]? = some v := ⟨vs[0]'(by rw [hbd.1]; exact Nat.one_pos), List.getElem?_eq_getElem _⟩
      obtain ⟨adk, rfl, hak, hclk⟩ := hrk 0 _ rfl
      obtain ⟨ad, rfl, hab, hcl⟩ := hrd 0 v hv
      obtain ⟨Av, cv, rfl, -, -, hrb⟩ := hbd.2 0 v xs hv rfl
      have HB7 := Lib.hid j7.bel
      have hz7 : Jm.size ⟨Fm.frm a0 xs, [], -1, false⟩ ≤ 16777216 := hz2
      rw [Addr.add_zero'] at hcl hclk
      have HK := Lib.hid (fun (W : World) (q : Below w7.heap.size w7 W) => (q.cell (p := adk) hak).trans hclk)
      have HD := Lib.hid (fun (W : World) (q : Below w7.heap.size w7 W) => (q.cell (p := ad) hab).trans hcl)
      have HS := Lib.hid (fun (W : World) (q : Below w7.heap.size w7 W) => str_of (cap := cv) (hrb.below q) rfl)
      have HSX := Lib.hid (fun (W : World) (q : Below w7.heap.size w7 W) => str_of (cap := cap1) ((HX.out.below HB7.out).below (q.mono HB7.out.size)) HNX.out)
      have HE := Lib.hid (str_beq HBX.out HBX.out)
      have HSY := Lib.hid (fun (W : World) (q : Below w7.heap.size w7 W) => by
        have := synced_own (j7.below q) hz7
        rw [show (Fm.frm a0 xs).length = len1 + 8 by rw [HF1.out, HNX.out]] at this
        exact this)
      have hL1 : IntKind.i64.wrap ((len1 : Int) + 8) = (len1 : Int) + 8 := IntWalk.i64_in _ (by rw [HNX.out] at hl1'; omega)
      clear told hrk hrd hbd hv hcl hclk hrb j7 hak hab
      go_wp2_with fail
      refine region_C (fun W => Below w7.heap.size w7 W) (by kernel_rfl) ?_
      have hC : Below w7.heap.size w7 w7.drew := (Below.refl _ _).drew
      refine anyC_take (i := 0) (v := ?v0_38) (a' := ?a0_38) rfl (by kernel_rfl) (by kernel_rfl) (by kernel_rfl) (fun _ _ _ h => h) hC ?w0_38 ?y0_38 ?f0_38 ?r0_38
      case w0_38 => kernel_rfl
      case y0_38 => (intro w hC; go_simp; try with_reducible rfl)
      case f0_38 => (go_simp; try with_reducible rfl)
      refine anyC_take (i := 1) (v := ?v1_39) (a' := ?a1_39) rfl (by kernel_rfl) (by kernel_rfl) (by kernel_rfl) (fun _ _ _ h => h) hC ?w1_39 ?y1_39 ?f1_39 ?r1_39
      case w1_39 => kernel_rfl
      case y1_39 => (intro w hC; go_simp; try with_reducible rfl)
      case f1_39 => (go_simp; try with_reducible rfl)
      refine anyC_take (i := 2) (v := ?v2_40) (a' := ?a2_40) rfl (by kernel_rfl) (by kernel_rfl) (by kernel_rfl) (fun _ _ _ h => h) hC ?w2_40 ?y2_40 ?f2_40 ?r2_40
      case w2_40 => kernel_rfl
      case y2_40 => (intro w hC; go_simp; try with_reducible rfl)
      case f2_40 => (go_simp; try with_reducible rfl)
      refine anyC_take (i := 3) (v := ?v3_41) (a' := ?a3_41) rfl (by kernel_rfl) (by kernel_rfl) (by kernel_rfl) (fun _ _ _ h => h) hC ?w3_41 ?y3_41 ?f3_41 ?r3_41
      case w3_41 => kernel_rfl
      case y3_41 => (intro w hC; go_simp; try with_reducible rfl)
      case f3_41 => (go_simp; try with_reducible rfl)
      refine anyC_take (i := 4) (v := ?v4_42) (a' := ?a4_42) rfl (by kernel_rfl) (by kernel_rfl) (by kernel_rfl) (fun _ _ _ h => h) hC ?w4_42 ?y4_42 ?f4_42 ?r4_42
      case w4_42 => kernel_rfl
      case y4_42 => (intro w hC; go_simp; try with_reducible rfl)
      case f4_42 => (go_simp; try with_reducible rfl)
      refine anyC_take (i := 5) (v := ?v5_43) (a' := ?a5_43) rfl (by kernel_rfl) (by kernel_rfl) (by kernel_rfl) (fun _ _ _ h => h) hC ?w5_43 ?y5_43 ?f5_43 ?r5_43
      case w5_43 => kernel_rfl
      case y5_43 => (intro w hC; go_simp; try with_reducible rfl)
      case f5_43 => (go_simp; try with_reducible rfl)
      refine anyC_take (i := 6) (v := ?v6_44) (a' := ?a6_44) rfl (by kernel_rfl) (by kernel_rfl) (by kernel_rfl) (fun _ _ _ h => h) hC ?w6_44 ?y6_44 ?f6_44 ?r6_44
      case w6_44 => kernel_rfl
      case y6_44 => (intro w hC; go_simp; try with_reducible rfl)
      case f6_44 => (go_simp; try with_reducible rfl)
      refine anyC_take (i := 7) (v := ?v7_45) (a' := ?a7_45) rfl (by kernel_rfl) (by kernel_rfl) (by kernel_rfl) (fun _ _ _ h => h) hC ?w7_45 ?y7_45 ?f7_45 ?r7_45
      case w7_45 => kernel_rfl
      case y7_45 => (intro w hC; go_simp; try with_reducible rfl)
      case f7_45 => (go_simp; try with_reducible rfl)
      refine anyC_take (i := 8) (v := ?v8_46) (a' := ?a8_46) rfl (by kernel_rfl) (by kernel_rfl) (by kernel_rfl) (fun _ _ _ h => h) hC ?w8_46 ?y8_46 ?f8_46 ?r8_46
      case w8_46 => kernel_rfl
      case y8_46 => (intro w hC; go_simp; try with_reducible rfl)
      case f8_46 => (go_simp; try with_reducible rfl)
      refine anyC_take (i := 9) (v := ?v9_47) (a' := ?a9_47) rfl (by kernel_rfl) (by kernel_rfl) (by kernel_rfl) (fun _ _ _ h => h) hC ?w9_47 ?y9_47 ?f9_47 ?r9_47
      case w9_47 => kernel_rfl
      case y9_47 => (intro w hC; go_simp; try with_reducible rfl)
      case f9_47 => (go_simp; try with_reducible rfl)
      refine anyC_take (i := 10) (v := ?v10_48) (a' := ?a10_48) rfl (by kernel_rfl) (by kernel_rfl) (by kernel_rfl) (fun _ _ _ h => h) hC ?w10_48 ?y10_48 ?f10_48 ?r10_48
      case w10_48 => kernel_rfl
      case y10_48 => (intro w hC; go_simp; try with_reducible rfl)
      case f10_48 => (go_simp; try with_reducible rfl)
      refine anyC_take (i := 11) (v := ?v11_49) (a' := ?a11_49) rfl (by kernel_rfl) (by kernel_rfl) (by kernel_rfl) (fun _ _ _ h => h) hC ?w11_49 ?y11_49 ?f11_49 ?r11_49
      case w11_49 => kernel_rfl
      case y11_49 => (intro w hC; go_simp; try with_reducible rfl)
      case f11_49 => (go_simp; try with_reducible rfl)
      refine anyC_take (i := 12) (v := ?v12_50) (a' := ?a12_50) rfl (by kernel_rfl) (by kernel_rfl) (by kernel_rfl) (fun _ _ _ h => h) hC ?w12_50 ?y12_50 ?f12_50 ?r12_50
      case w12_50 => kernel_rfl
      case y12_50 => (intro w hC; go_simp; try with_reducible rfl)
      case f12_50 => (go_simp; try with_reducible rfl)
      refine anyC_take (i := 13) (v := ?v13_51) (a' := ?a13_51) rfl (by kernel_rfl) (by kernel_rfl) (by kernel_rfl) (fun _ _ _ h => h) hC ?w13_51 ?y13_51 ?f13_51 ?r13_51
      case w13_51 => kernel_rfl
      case y13_51 => (intro w hC; go_simp; try with_reducible rfl)
      case f13_51 => (go_simp; try with_reducible rfl)
      refine anyC_take (i := 14) (v := ?v14_52) (a' := ?a14_52) rfl (by kernel_rfl) (by kernel_rfl) (by kernel_rfl) (fun _ _ _ h => h) hC ?w14_52 ?y14_52 ?f14_52 ?r14_52
      case w14_52 => kernel_rfl
      case y14_52 => (intro w hC; go_simp; try with_reducible rfl)
      case f14_52 => (go_simp; try with_reducible rfl)
      refine anyC_take (i := 15) (v := ?v15_53) (a' := ?a15_53) rfl (by kernel_rfl) (by kernel_rfl) (by kernel_rfl) (fun _ _ _ h => h) hC ?w15_53 ?y15_53 ?f15_53 ?r15_53
      case w15_53 => kernel_rfl
      case y15_53 => (intro w hC; have h4 := HK.out w hC; go_simp; try with_reducible rfl)
      case f15_53 => (go_simp; try with_reducible rfl)
      refine anyC_take (i := 16) (v := ?v16_54) (a' := ?a16_54) rfl (by kernel_rfl) (by kernel_rfl) (by kernel_rfl) (fun _ _ _ h => h) hC ?w16_54 ?y16_54 ?f16_54 ?r16_54
      case w16_54 => kernel_rfl
      case y16_54 => (intro w hC; go_simp; try with_reducible rfl)
      case f16_54 => (go_simp; try with_reducible rfl)
      refine anyC_take (i := 17) (v := ?v17_55) (a' := ?a17_55) rfl (by kernel_rfl) (by kernel_rfl) (by kernel_rfl) (fun _ _ _ h => h) hC ?w17_55 ?y17_55 ?f17_55 ?r17_55
      case w17_55 => kernel_rfl
      case y17_55 => (intro w hC; go_simp; try with_reducible rfl)
      case f17_55 => (go_simp; try with_reducible rfl)
      refine anyC_take (i := 18) (v := ?v18_56) (a' := ?a18_56) rfl (by kernel_rfl) (by kernel_rfl) (by kernel_rfl) (fun _ _ _ h => h) hC ?w18_56 ?y18_56 ?f18_56 ?r18_56
      case w18_56 => kernel_rfl
      case y18_56 => (intro w hC; go_simp; try with_reducible rfl)
      case f18_56 => (go_simp; try with_reducible rfl)
      refine anyC_take (i := 19) (v := ?v19_57) (a' := ?a19_57) rfl (by kernel_rfl) (by kernel_rfl) (by kernel_rfl) (fun _ _ _ h => h) hC ?w19_57 ?y19_57 ?f19_57 ?r19_57
      case w19_57 => kernel_rfl
      case y19_57 => (intro w hC; go_simp; try with_reducible rfl)
      case f19_57 => (go_simp; try with_reducible rfl)
      refine anyC_take (i := 20) (v := ?v20_58) (a' := ?a20_58) rfl (by kernel_rfl) (by kernel_rfl) (by kernel_rfl) (fun _ _ _ h => h) hC ?w20_58 ?y20_58 ?f20_58 ?r20_58
      case w20_58 => kernel_rfl
      case y20_58 => (intro w hC; go_simp; try with_reducible rfl)
      case f20_58 => (go_simp; try with_reducible rfl)
      refine anyC_take (i := 21) (v := ?v21_59) (a' := ?a21_59) rfl (by kernel_rfl) (by kernel_rfl) (by kernel_rfl) (fun _ _ _ h => h) hC ?w21_59 ?y21_59 ?f21_59 ?r21_59
      case w21_59 => kernel_rfl
      case y21_59 => (intro w hC; go_simp; try with_reducible rfl)
      case f21_59 => (go_simp; try with_reducible rfl)
      refine anyC_take (i := 22) (v := ?v22_60) (a' := ?a22_60) rfl (by kernel_rfl) (by kernel_rfl) (by kernel_rfl) (fun _ _ _ h => h) hC ?w22_60 ?y22_60 ?f22_60 ?r22_60
      case w22_60 => kernel_rfl
      case y22_60 => (intro w hC; have h4 := HD.out w hC; go_simp; try with_reducible rfl)
      case f22_60 => (go_simp; try with_reducible rfl)
      refine anyC_take (i := 23) (v := ?v23_61) (a' := ?a23_61) rfl (by kernel_rfl) (by kernel_rfl) (by kernel_rfl) (fun _ _ _ h => h) hC ?w23_61 ?y23_61 ?f23_61 ?r23_61
      case w23_61 => kernel_rfl
      case y23_61 => (intro w hC; have h4 := HS.out w hC; go_simp; try with_reducible rfl)
      case f23_61 => (go_simp; try with_reducible rfl)
      refine anyC_take (i := 24) (v := ?v24_62) (a' := ?a24_62) rfl (by kernel_rfl) (by kernel_rfl) (by kernel_rfl) (fun _ _ _ h => h) hC ?w24_62 ?y24_62 ?f24_62 ?r24_62
      case w24_62 => kernel_rfl
      case y24_62 => (intro w hC; go_simp; try with_reducible rfl)
      case f24_62 => (go_simp; try with_reducible rfl)
      refine anyC_take (i := 25) (v := ?v25_63) (a' := ?a25_63) rfl (by kernel_rfl) (by kernel_rfl) (by kernel_rfl) (fun _ _ _ h => h) hC ?w25_63 ?y25_63 ?f25_63 ?r25_63
      case w25_63 => kernel_rfl
      case y25_63 => (intro w hC; have h4 := HSX.out w hC; go_simp; try with_reducible rfl)
      case f25_63 => (go_simp; try with_reducible rfl)
      refine anyC_take (i := 26) (v := ?v26_64) (a' := ?a26_64) rfl (by kernel_rfl) (by kernel_rfl) (by kernel_rfl) (fun _ _ _ h => h) hC ?w26_64 ?y26_64 ?f26_64 ?r26_64
      case w26_64 => kernel_rfl
      case y26_64 => (intro w hC; go_simp; try with_reducible rfl)
      case f26_64 => (go_simp; try with_reducible rfl)
      refine anyC_take (i := 27) (v := ?v27_65) (a' := ?a27_65) rfl (by kernel_rfl) (by kernel_rfl) (by kernel_rfl) (fun _ _ _ h => h) hC ?w27_65 ?y27_65 ?f27_65 ?r27_65
      case w27_65 => kernel_rfl
      case y27_65 => (intro w hC; go_simp; try with_reducible rfl)
      case f27_65 => (go_simp; try with_reducible rfl)
      refine anyC_take (i := 28) (v := ?v28_66) (a' := ?a28_66) rfl (by kernel_rfl) (by kernel_rfl) (by kernel_rfl) (fun _ _ _ h => h) hC ?w28_66 ?y28_66 ?f28_66 ?r28_66
      case w28_66 => kernel_rfl
      case y28_66 => (intro w hC; go_simp; try with_reducible rfl)
      case f28_66 => (go_simp; try with_reducible rfl)
      refine anyC_take (i := 29) (v := ?v29_67) (a' := ?a29_67) rfl (by kernel_rfl) (by kernel_rfl) (by kernel_rfl) (fun _ _ _ h => h) hC ?w29_67 ?y29_67 ?f29_67 ?r29_67
      case w29_67 => kernel_rfl
      case y29_67 => (intro w hC; go_simp; try with_reducible rfl)
      case f29_67 => (go_simp; try with_reducible rfl)
      refine anyC_take (i := 32) (v := ?v32_68) (a' := ?a32_68) rfl (by kernel_rfl) (by kernel_rfl) (by kernel_rfl) (fun _ _ _ h => h) hC ?w32_68 ?y32_68 ?f32_68 ?r32_68
      case w32_68 => kernel_rfl
      case y32_68 => (intro w hC; go_simp; try with_reducible rfl)
      case f32_68 => (go_simp; try with_reducible rfl)
      refine anyC_take (i := 33) (v := ?v33_69) (a' := ?a33_69) rfl (by kernel_rfl) (by kernel_rfl) (by kernel_rfl) (fun _ _ _ h => h) hC ?w33_69 ?y33_69 ?f33_69 ?r33_69
      case w33_69 => kernel_rfl
      case y33_69 => (intro w hC; go_simp; try with_reducible rfl)
      case f33_69 => (go_simp; try with_reducible rfl)
      refine anyC_take (i := 34) (v := ?v34_70) (a' := ?a34_70) rfl (by kernel_rfl) (by kernel_rfl) (by kernel_rfl) (fun _ _ _ h => h) hC ?w34_70 ?y34_70 ?f34_70 ?r34_70
      case w34_70 => kernel_rfl
      case y34_70 => (intro w hC; go_simp; try with_reducible rfl)
      case f34_70 => (go_simp; try with_reducible rfl)
      refine anyC_one (i := 30) rfl (by kernel_rfl) (by kernel_rfl) (fun K hK => ?_)
      go_simp
      refine (HSY.out _ hC).mono ?_
      rintro e w8 ⟨v8, rfl, hown, hb8⟩
      obtain ⟨A8, c8, rfl, -, -, -⟩ := own_view hown
      have hC8 : Below w7.heap.size w7 w8 := hC.trans (hb8.mono (by exact Nat.le_refl _))
      refine hK _ _ ⟨hC8, ?_⟩
      clear hK K hown hb8
      refine anyC_take (i := 31) (v := ?v31_71) (a' := ?a31_71) rfl (by kernel_rfl) (by kernel_rfl) (by kernel_rfl) (fun _ _ _ h => h) hC8 ?w31_71 ?y31_71 ?f31_71 ?r31_71
      case w31_71 => kernel_rfl
      case y31_71 => (intro w hC; go_simp; try with_reducible rfl)
      case f31_71 => (go_simp; try with_reducible rfl)
      refine anyC_take (i := 35) (v := ?v35_72) (a' := ?a35_72) rfl (by kernel_rfl) (by kernel_rfl) (by kernel_rfl) (fun _ _ _ h => h) hC8 ?w35_72 ?y35_72 ?f35_72 ?r35_72
      case w35_72 => kernel_rfl
      case y35_72 => (intro w hC; go_simp; try with_reducible rfl)
      case f35_72 => (go_simp; try with_reducible rfl)
      refine anyC_take (i := 36) (v := ?v36_73) (a' := ?a36_73) rfl (by kernel_rfl) (by kernel_rfl) (by kernel_rfl) (fun _ _ _ h => h) hC8 ?w36_73 ?y36_73 ?f36_73 ?r36_73
      case w36_73 => kernel_rfl
      case y36_73 => (intro w hC; go_simp; try with_reducible rfl)
      case f36_73 => (go_simp; try with_reducible rfl)
      refine anyC_take (i := 37) (v := ?v37_74) (a' := ?a37_74) rfl (by kernel_rfl) (by kernel_rfl) (by kernel_rfl) (fun _ _ _ h => h) hC8 ?w37_74 ?y37_74 ?f37_74 ?r37_74
      case w37_74 => kernel_rfl
      case y37_74 => (intro w hC; go_simp; try with_reducible rfl)
      case f37_74 => (go_simp; try with_reducible rfl)
      refine anyC_done (by kernel_rfl) ?_
      go_wp2
      go_ret
      exact ⟨rfl, HB7.out.trans (hC8.mono HB7.out.size)⟩
    · have H6 := Lib.hid (open_own j6 HT.out (HZ.out _))
      have HB6 := Lib.hid j6.bel
      rw [HO.out _ (by have := HNY.out; split <;> omega)] at H6
      dsimp only at H6
      clear j6
      refine H6.out.mono ?_
      rintro e w7 ⟨kk, bb, rfl, told, j7⟩
      obtain ⟨Ak, ck, vs, Ab, cb, rfl, rfl, -, -, hrk, hrd, hbd⟩ := told.outF
      obtain ⟨v, hv⟩ : ∃ v, vs[0]? = some v := ⟨vs[0]'(by rw [hbd.1]; exact Nat.one_pos), List.getElem?_eq_getElem _⟩
      obtain ⟨adk, rfl, hak, hclk⟩ := hrk 0 _ rfl
      obtain ⟨ad, rfl, hab, hcl⟩ := hrd 0 v hv
      obtain ⟨Av, cv, rfl, -, -, hrb⟩ := hbd.2 0 v xs hv rfl
      have HB7 := Lib.hid j7.bel
      have hz7 : Jm.size ⟨Fm.frm a0 xs, [], -1, false⟩ ≤ 16777216 := hz2
      rw [Addr.add_zero'] at hcl hclk
      have HK := Lib.hid (fun (W : World) (q : Below w7.heap.size w7 W) => (q.cell (p := adk) hak).trans hclk)
      have HD := Lib.hid (fun (W : World) (q : Below w7.heap.size w7 W) => (q.cell (p := ad) hab).trans hcl)
      have HS := Lib.hid (fun (W : World) (q : Below w7.heap.size w7 W) => str_of (cap := cv) (hrb.below q) rfl)
      have HSX := Lib.hid (fun (W : World) (q : Below w7.heap.size w7 W) => str_of (cap := cap1) ((HX.out.below HB7.out).below (q.mono HB7.out.size)) HNX.out)
      have HE := Lib.hid (str_beq HBX.out HBX.out)
      have HSY := Lib.hid (fun (W : World) (q : Below w7.heap.size w7 W) => by
        have := synced_own (j7.below q) hz7
        rw [show (Fm.frm a0 xs).length = len1 + 8 by rw [HF1.out, HNX.out]] at this
        exact this)
      have hL1 : IntKind.i64.wrap ((len1 : Int) + 8) = (len1 : Int) + 8 := IntWalk.i64_in _ (by rw [HNX.out] at hl1'; omega)
      clear told hrk hrd hbd hv hcl hclk hrb j7 hak hab
      go_wp2_with fail
      refine region_C (fun W => Below w7.heap.size w7 W) (by kernel_rfl) ?_
      have hC : Below w7.heap.size w7 w7.drew := (Below.refl _ _).drew
      refine anyC_take (i := 0) (v := ?v0_75) (a' := ?a0_75) rfl (by kernel_rfl) (by kernel_rfl) (by kernel_rfl) (fun _ _ _ h => h) hC ?w0_75 ?y0_75 ?f0_75 ?r0_75
      case w0_75 => kernel_rfl
      case y0_75 => (intro w hC; go_simp; try with_reducible rfl)
      case f0_75 => (go_simp; try with_reducible rfl)
      refine anyC_take (i := 1) (v := ?v1_76) (a' := ?a1_76) rfl (by kernel_rfl) (by kernel_rfl) (by kernel_rfl) (fun _ _ _ h => h) hC ?w1_76 ?y1_76 ?f1_76 ?r1_76
      case w1_76 => kernel_rfl
      case y1_76 => (intro w hC; go_simp; try with_reducible rfl)
      case f1_76 => (go_simp; try with_reducible rfl)
      refine anyC_take (i := 2) (v := ?v2_77) (a' := ?a2_77) rfl (by kernel_rfl) (by kernel_rfl) (by kernel_rfl) (fun _ _ _ h => h) hC ?w2_77 ?y2_77 ?f2_77 ?r2_77
      case w2_77 => kernel_rfl
      case y2_77 => (intro w hC; go_simp; try with_reducible rfl)
      case f2_77 => (go_simp; try with_reducible rfl)
      refine anyC_take (i := 3) (v := ?v3_78) (a' := ?a3_78) rfl (by kernel_rfl) (by kernel_rfl) (by kernel_rfl) (fun _ _ _ h => h) hC ?w3_78 ?y3_78 ?f3_78 ?r3_78
      case w3_78 => kernel_rfl
      case y3_78 => (intro w hC; go_simp; try with_reducible rfl)
      case f3_78 => (go_simp; try with_reducible rfl)
      refine anyC_take (i := 4) (v := ?v4_79) (a' := ?a4_79) rfl (by kernel_rfl) (by kernel_rfl) (by kernel_rfl) (fun _ _ _ h => h) hC ?w4_79 ?y4_79 ?f4_79 ?r4_79
      case w4_79 => kernel_rfl
      case y4_79 => (intro w hC; go_simp; try with_reducible rfl)
      case f4_79 => (go_simp; try with_reducible rfl)
      refine anyC_take (i := 5) (v := ?v5_80) (a' := ?a5_80) rfl (by kernel_rfl) (by kernel_rfl) (by kernel_rfl) (fun _ _ _ h => h) hC ?w5_80 ?y5_80 ?f5_80 ?r5_80
      case w5_80 => kernel_rfl
      case y5_80 => (intro w hC; go_simp; try with_reducible rfl)
      case f5_80 => (go_simp; try with_reducible rfl)
      refine anyC_take (i := 6) (v := ?v6_81) (a' := ?a6_81) rfl (by kernel_rfl) (by kernel_rfl) (by kernel_rfl) (fun _ _ _ h => h) hC ?w6_81 ?y6_81 ?f6_81 ?r6_81
      case w6_81 => kernel_rfl
      case y6_81 => (intro w hC; go_simp; try with_reducible rfl)
      case f6_81 => (go_simp; try with_reducible rfl)
      refine anyC_take (i := 7) (v := ?v7_82) (a' := ?a7_82) rfl (by kernel_rfl) (by kernel_rfl) (by kernel_rfl) (fun _ _ _ h => h) hC ?w7_82 ?y7_82 ?f7_82 ?r7_82
      case w7_82 => kernel_rfl
      case y7_82 => (intro w hC; go_simp; try with_reducible rfl)
      case f7_82 => (go_simp; try with_reducible rfl)
      refine anyC_take (i := 8) (v := ?v8_83) (a' := ?a8_83) rfl (by kernel_rfl) (by kernel_rfl) (by kernel_rfl) (fun _ _ _ h => h) hC ?w8_83 ?y8_83 ?f8_83 ?r8_83
      case w8_83 => kernel_rfl
      case y8_83 => (intro w hC; go_simp; try with_reducible rfl)
      case f8_83 => (go_simp; try with_reducible rfl)
      refine anyC_take (i := 9) (v := ?v9_84) (a' := ?a9_84) rfl (by kernel_rfl) (by kernel_rfl) (by kernel_rfl) (fun _ _ _ h => h) hC ?w9_84 ?y9_84 ?f9_84 ?r9_84
      case w9_84 => kernel_rfl
      case y9_84 => (intro w hC; go_simp; try with_reducible rfl)
      case f9_84 => (go_simp; try with_reducible rfl)
      refine anyC_take (i := 10) (v := ?v10_85) (a' := ?a10_85) rfl (by kernel_rfl) (by kernel_rfl) (by kernel_rfl) (fun _ _ _ h => h) hC ?w10_85 ?y10_85 ?f10_85 ?r10_85
      case w10_85 => kernel_rfl
      case y10_85 => (intro w hC; go_simp; try with_reducible rfl)
      case f10_85 => (go_simp; try with_reducible rfl)
      refine anyC_take (i := 11) (v := ?v11_86) (a' := ?a11_86) rfl (by kernel_rfl) (by kernel_rfl) (by kernel_rfl) (fun _ _ _ h => h) hC ?w11_86 ?y11_86 ?f11_86 ?r11_86
      case w11_86 => kernel_rfl
      case y11_86 => (intro w hC; go_simp; try with_reducible rfl)
      case f11_86 => (go_simp; try with_reducible rfl)
      refine anyC_take (i := 12) (v := ?v12_87) (a' := ?a12_87) rfl (by kernel_rfl) (by kernel_rfl) (by kernel_rfl) (fun _ _ _ h => h) hC ?w12_87 ?y12_87 ?f12_87 ?r12_87
      case w12_87 => kernel_rfl
      case y12_87 => (intro w hC; go_simp; try with_reducible rfl)
      case f12_87 => (go_simp; try with_reducible rfl)
      refine anyC_take (i := 13) (v := ?v13_88) (a' := ?a13_88) rfl (by kernel_rfl) (by kernel_rfl) (by kernel_rfl) (fun _ _ _ h => h) hC ?w13_88 ?y13_88 ?f13_88 ?r13_88
      case w13_88 => kernel_rfl
      case y13_88 => (intro w hC; go_simp; try with_reducible rfl)
      case f13_88 => (go_simp; try with_reducible rfl)
      refine anyC_take (i := 14) (v := ?v14_89) (a' := ?a14_89) rfl (by kernel_rfl) (by kernel_rfl) (by kernel_rfl) (fun _ _ _ h => h) hC ?w14_89 ?y14_89 ?f14_89 ?r14_89
      case w14_89 => kernel_rfl
      case y14_89 => (intro w hC; go_simp; try with_reducible rfl)
      case f14_89 => (go_simp; try with_reducible rfl)
      refine anyC_take (i := 15) (v := ?v15_90) (a' := ?a15_90) rfl (by kernel_rfl) (by kernel_rfl) (by kernel_rfl) (fun _ _ _ h => h) hC ?w15_90 ?y15_90 ?f15_90 ?r15_90
      case w15_90 => kernel_rfl
      case y15_90 => (intro w hC; have h4 := HK.out w hC; go_simp; try with_reducible rfl)
      case f15_90 => (go_simp; try with_reducible rfl)
      refine anyC_take (i := 16) (v := ?v16_91) (a' := ?a16_91) rfl (by kernel_rfl) (by kernel_rfl) (by kernel_rfl) (fun _ _ _ h => h) hC ?w16_91 ?y16_91 ?f16_91 ?r16_91
      case w16_91 => kernel_rfl
      case y16_91 => (intro w hC; go_simp; try with_reducible rfl)
      case f16_91 => (go_simp; try with_reducible rfl)
      refine anyC_take (i := 17) (v := ?v17_92) (a' := ?a17_92) rfl (by kernel_rfl) (by kernel_rfl) (by kernel_rfl) (fun _ _ _ h => h) hC ?w17_92 ?y17_92 ?f17_92 ?r17_92
      case w17_92 => kernel_rfl
      case y17_92 => (intro w hC; go_simp; try with_reducible rfl)
      case f17_92 => (go_simp; try with_reducible rfl)
      refine anyC_take (i := 18) (v := ?v18_93) (a' := ?a18_93) rfl (by kernel_rfl) (by kernel_rfl) (by kernel_rfl) (fun _ _ _ h => h) hC ?w18_93 ?y18_93 ?f18_93 ?r18_93
      case w18_93 => kernel_rfl
      case y18_93 => (intro w hC; go_simp; try with_reducible rfl)
      case f18_93 => (go_simp; try with_reducible rfl)
      refine anyC_take (i := 19) (v := ?v19_94) (a' := ?a19_94) rfl (by kernel_rfl) (by kernel_rfl) (by kernel_rfl) (fun _ _ _ h => h) hC ?w19_94 ?y19_94 ?f19_94 ?r19_94
      case w19_94 => kernel_rfl
      case y19_94 => (intro w hC; go_simp; try with_reducible rfl)
      case f19_94 => (go_simp; try with_reducible rfl)
      refine anyC_take (i := 20) (v := ?v20_95) (a' := ?a20_95) rfl (by kernel_rfl) (by kernel_rfl) (by kernel_rfl) (fun _ _ _ h => h) hC ?w20_95 ?y20_95 ?f20_95 ?r20_95
      case w20_95 => kernel_rfl
      case y20_95 => (intro w hC; go_simp; try with_reducible rfl)
      case f20_95 => (go_simp; try with_reducible rfl)
      refine anyC_take (i := 21) (v := ?v21_96) (a' := ?a21_96) rfl (by kernel_rfl) (by kernel_rfl) (by kernel_rfl) (fun _ _ _ h => h) hC ?w21_96 ?y21_96 ?f21_96 ?r21_96
      case w21_96 => kernel_rfl
      case y21_96 => (intro w hC; go_simp; try with_reducible rfl)
      case f21_96 => (go_simp; try with_reducible rfl)
      refine anyC_take (i := 22) (v := ?v22_97) (a' := ?a22_97) rfl (by kernel_rfl) (by kernel_rfl) (by kernel_rfl) (fun _ _ _ h => h) hC ?w22_97 ?y22_97 ?f22_97 ?r22_97
      case w22_97 => kernel_rfl
      case y22_97 => (intro w hC; have h4 := HD.out w hC; go_simp; try with_reducible rfl)
      case f22_97 => (go_simp; try with_reducible rfl)
      refine anyC_take (i := 23) (v := ?v23_98) (a' := ?a23_98) rfl (by kernel_rfl) (by kernel_rfl) (by kernel_rfl) (fun _ _ _ h => h) hC ?w23_98 ?y23_98 ?f23_98 ?r23_98
      case w23_98 => kernel_rfl
      case y23_98 => (intro w hC; have h4 := HS.out w hC; go_simp; try with_reducible rfl)
      case f23_98 => (go_simp; try with_reducible rfl)
      refine anyC_take (i := 24) (v := ?v24_99) (a' := ?a24_99) rfl (by kernel_rfl) (by kernel_rfl) (by kernel_rfl) (fun _ _ _ h => h) hC ?w24_99 ?y24_99 ?f24_99 ?r24_99
      case w24_99 => kernel_rfl
      case y24_99 => (intro w hC; go_simp; try with_reducible rfl)
      case f24_99 => (go_simp; try with_reducible rfl)
      refine anyC_take (i := 25) (v := ?v25_100) (a' := ?a25_100) rfl (by kernel_rfl) (by kernel_rfl) (by kernel_rfl) (fun _ _ _ h => h) hC ?w25_100 ?y25_100 ?f25_100 ?r25_100
      case w25_100 => kernel_rfl
      case y25_100 => (intro w hC; have h4 := HSX.out w hC; go_simp; try with_reducible rfl)
      case f25_100 => (go_simp; try with_reducible rfl)
      refine anyC_take (i := 26) (v := ?v26_101) (a' := ?a26_101) rfl (by kernel_rfl) (by kernel_rfl) (by kernel_rfl) (fun _ _ _ h => h) hC ?w26_101 ?y26_101 ?f26_101 ?r26_101
      case w26_101 => kernel_rfl
      case y26_101 => (intro w hC; go_simp; try with_reducible rfl)
      case f26_101 => (go_simp; try with_reducible rfl)
      refine anyC_take (i := 27) (v := ?v27_102) (a' := ?a27_102) rfl (by kernel_rfl) (by kernel_rfl) (by kernel_rfl) (fun _ _ _ h => h) hC ?w27_102 ?y27_102 ?f27_102 ?r27_102
      case w27_102 => kernel_rfl
      case y27_102 => (intro w hC; go_simp; try with_reducible rfl)
      case f27_102 => (go_simp; try with_reducible rfl)
      refine anyC_take (i := 28) (v := ?v28_103) (a' := ?a28_103) rfl (by kernel_rfl) (by kernel_rfl) (by kernel_rfl) (fun _ _ _ h => h) hC ?w28_103 ?y28_103 ?f28_103 ?r28_103
      case w28_103 => kernel_rfl
      case y28_103 => (intro w hC; go_simp; try with_reducible rfl)
      case f28_103 => (go_simp; try with_reducible rfl)
      refine anyC_take (i := 29) (v := ?v29_104) (a' := ?a29_104) rfl (by kernel_rfl) (by kernel_rfl) (by kernel_rfl) (fun _ _ _ h => h) hC ?w29_104 ?y29_104 ?f29_104 ?r29_104
      case w29_104 => kernel_rfl
      case y29_104 => (intro w hC; go_simp; try with_reducible rfl)
      case f29_104 => (go_simp; try with_reducible rfl)
      refine anyC_take (i := 32) (v := ?v32_105) (a' := ?a32_105) rfl (by kernel_rfl) (by kernel_rfl) (by kernel_rfl) (fun _ _ _ h => h) hC ?w32_105 ?y32_105 ?f32_105 ?r32_105
      case w32_105 => kernel_rfl
      case y32_105 => (intro w hC; go_simp; try with_reducible rfl)
      case f32_105 => (go_simp; try with_reducible rfl)
      refine anyC_take (i := 33) (v := ?v33_106) (a' := ?a33_106) rfl (by kernel_rfl) (by kernel_rfl) (by kernel_rfl) (fun _ _ _ h => h) hC ?w33_106 ?y33_106 ?f33_106 ?r33_106
      case w33_106 => kernel_rfl
      case y33_106 => (intro w hC; go_simp; try with_reducible rfl)
      case f33_106 => (go_simp; try with_reducible rfl)
      refine anyC_take (i := 34) (v := ?v34_107) (a' := ?a34_107) rfl (by kernel_rfl) (by kernel_rfl) (by kernel_rfl) (fun _ _ _ h => h) hC ?w34_107 ?y34_107 ?f34_107 ?r34_107
      case w34_107 => kernel_rfl
      case y34_107 => (intro w hC; go_simp; try with_reducible rfl)
      case f34_107 => (go_simp; try with_reducible rfl)
      refine anyC_one (i := 30) rfl (by kernel_rfl) (by kernel_rfl) (fun K hK => ?_)
      go_simp
      refine (HSY.out _ hC).mono ?_
      rintro e w8 ⟨v8, rfl, hown, hb8⟩
      obtain ⟨A8, c8, rfl, -, -, -⟩ := own_view hown
      have hC8 : Below w7.heap.size w7 w8 := hC.trans (hb8.mono (by exact Nat.le_refl _))
      refine hK _ _ ⟨hC8, ?_⟩
      clear hK K hown hb8
      refine anyC_take (i := 31) (v := ?v31_108) (a' := ?a31_108) rfl (by kernel_rfl) (by kernel_rfl) (by kernel_rfl) (fun _ _ _ h => h) hC8 ?w31_108 ?y31_108 ?f31_108 ?r31_108
      case w31_108 => kernel_rfl
      case y31_108 => (intro w hC; go_simp; try with_reducible rfl)
      case f31_108 => (go_simp; try with_reducible rfl)
      refine anyC_take (i := 35) (v := ?v35_109) (a' := ?a35_109) rfl (by kernel_rfl) (by kernel_rfl) (by kernel_rfl) (fun _ _ _ h => h) hC8 ?w35_109 ?y35_109 ?f35_109 ?r35_109
      case w35_109 => kernel_rfl
      case y35_109 => (intro w hC; go_simp; try with_reducible rfl)
      case f35_109 => (go_simp; try with_reducible rfl)
      refine anyC_take (i := 36) (v := ?v36_110) (a' := ?a36_110) rfl (by kernel_rfl) (by kernel_rfl) (by kernel_rfl) (fun _ _ _ h => h) hC8 ?w36_110 ?y36_110 ?f36_110 ?r36_110
      case w36_110 => kernel_rfl
      case y36_110 => (intro w hC; go_simp; try with_reducible rfl)
      case f36_110 => (go_simp; try with_reducible rfl)
      refine anyC_take (i := 37) (v := ?v37_111) (a' := ?a37_111) rfl (by kernel_rfl) (by kernel_rfl) (by kernel_rfl) (fun _ _ _ h => h) hC8 ?w37_111 ?y37_111 ?f37_111 ?r37_111
      case w37_111 => kernel_rfl
      case y37_111 => (intro w hC; go_simp; try with_reducible rfl)
      case f37_111 => (go_simp; try with_reducible rfl)
      refine anyC_done (by kernel_rfl) ?_
      go_wp2
      go_ret
      exact ⟨rfl, HB7.out.trans (hC8.mono HB7.out.size)⟩
end Go.Proofs.YtgpagddaopgdgaaDoor
