/- Whether a plan is right, further: the document's. -/
import Derived.Test.YtdcdlnmgbgeeeaaDoorQr
namespace Go.Proofs.YtdcdlnmgbgeeeaaDoor
open Go.RowKit Go.Shelf

set_option maxRecDepth 100000 in
set_option maxHeartbeats 8000000 in
theorem RRight_any (x : Pm.Pl) (A : Option Addr) (n c : Nat) (A' : Option Addr) (n' c' : Nat) (B : Nat) (w : World) (hp : PlAt w B x A n c A' n' c') (hB : B ≤ w.heap.size) :
    Calls Tryd.prog 14 #[pv x A n c A' n' c'] w fun e w' => e = .returned (.bool x.right) ∧ Below w.heap.size w w' := by
  by_cases hsm : Pm.Small x ∧ n ≤ 16 ∧ n' ≤ 8
  case neg => exact RRight_no x A n c A' n' c' B w hp hsm
  obtain ⟨hsm, hn16, hn8⟩ := hsm
  have hx1 := Bx.new w x A n c A' n' c' 26
  have hb1 := Lib.hid ((Below.refl w.heap.size w).alloc (Nat.le_refl _) (.cells (pvs x A n c A' n' c').toArray 26))
  have HRT : Hid (x.right = Pm.ask (Pm.Bd x.pen 16 1000000 ∧ Pm.Bd x.ch 8 1099511627776 ∧ Pm.Sd x.ch)) := congrArg Pm.ask (propext ((Pm.rt_iff hp.ok).trans ⟨fun h => h.2, fun h => ⟨hsm, h⟩⟩))
  unfold Pm.Small at hsm
  have hl1 := hp.l1
  have hl2 := hp.l2
  have hm1 := hp.c1
  have hm2 := hp.c2
  have HX := Lib.hid hp.r1
  have HY := Lib.hid hp.r2
  have k0 := hx1.at 0 rfl
  have k1 := hx1.at 1 rfl
  have k2 := hx1.at 2 rfl
  have k3 := hx1.at 3 rfl
  have k4 := hx1.at 4 rfl
  have k5 := hx1.at 5 rfl
  have k6 := hx1.at 6 rfl
  have k7 := hx1.at 7 rfl
  have k8 := hx1.at 8 rfl
  have k9 := hx1.at 9 rfl
  have k10 := hx1.pen
  have k11 := hx1.ch
  clear hx1 hp
  rw [pv_eq]
  generalize pvs x A n c A' n' c' = L at *
  generalize x.e = xe at *
  generalize x.t = xt at *
  generalize x.p = xp at *
  generalize x.s = xs at *
  generalize x.c = xc at *
  generalize x.st = xst at *
  generalize x.si = xsi at *
  generalize x.ra = xra at *
  generalize x.up = xup at *
  generalize x.su = xsu at *
  obtain ⟨d0, d1, d2, d3, d4, d5, d6, d7, d8, q1, q2, q3, d9, d10⟩ := hsm
  have HL1 := Lib.hid hl1
  have HL2 := Lib.hid hl2
  have I1 := Lib.hid (in_any xst 0 1099511627776 (w.alloc (.cells L.toArray 26)))
  have I2 := Lib.hid (in_any xsi 0 1099511627776 (w.alloc (.cells L.toArray 26)))
  have I3 := Lib.hid (in_any xra 0 1099511627776 (w.alloc (.cells L.toArray 26)))
  rw [Pm.ask_yes q1] at I1
  rw [Pm.ask_yes q2] at I2
  rw [Pm.ask_yes q3] at I3
  have e0 : ¬ xe < 0 := by omega
  have e1 : ¬ xt < -1 := by omega
  have e2 : ¬ 16 ≤ xt := by omega
  have e3 : ¬ xp < -1 := by omega
  have e4 : ¬ 16 ≤ xp := by omega
  have e5 : ¬ xs < -1 := by omega
  have e6 : ¬ 16 ≤ xs := by omega
  have e7 : ¬ xc < 0 := by omega
  have e8 : ¬ 100 < xc := by omega
  have e9 : ¬ 65535 < xup := by omega
  have e10 : ¬ 65535 < xsu := by omega
  have e11 : ¬ 16 < n := by omega
  have e12 : ¬ 8 < n' := by omega
  clear hl1 hl2 q1 q2 q3 d0 d1 d2 d3 d4 d5 d6 d7 d8 d9 d10
  go_enter Tryd.func14, Tryd.ntmps14
  go_wp2_with (go_at_call 26; fail)
  refine I1.out.mono ?_
  rintro e w' ⟨rfl, rfl⟩
  go_wp2_with (go_at_call 26; fail)
  refine I2.out.mono ?_
  rintro e w' ⟨rfl, rfl⟩
  go_wp2_with (go_at_call 26; fail)
  refine I3.out.mono ?_
  rintro e w' ⟨rfl, rfl⟩
  clear I1 I2 I3
  go_wp2_with fail
  have HX1 := Lib.hid (HX.out.below (hb1.out.mono hB))
  have HY1 := Lib.hid (HY.out.below (hb1.out.mono hB))
  clear k0 k1 k2 k3 k4 k5 k6 k7 k8 k9 e0 e1 e2 e3 e4 e5 e6 e7 e8 e9 e10 e11 e12 HX HY
  have K10 := Lib.hid k10
  have K11 := Lib.hid k11
  go_loopw [3] (fun ix wr => ∃ (k : Nat), ix = .int .i64 (k : Int) ∧ k ≤ n ∧ Hid (∀ m ∈ x.pen.take k, 0 ≤ m ∧ m ≤ 1000000) ∧ Hid (wr = w.alloc (.cells L.toArray 26))) (fun ix _ => n - (intOf ix).toNat)
  case atStart => exact ⟨0, rfl, by omega, Lib.hid (fun m h => absurd h List.not_mem_nil), Lib.hid rfl⟩
  case round =>
    obtain ⟨k, rfl, hk, hT, hW⟩ := hrel
    have hx' : Rd wr B A (i64s x.pen) := by rw [hW.out]; exact HX1.out
    have k10' : wr.cell? ⟨w.heap.size, 10, none⟩ = some (.slice A n c) := by rw [hW.out]; exact K10.out
    have k11' : wr.cell? ⟨w.heap.size, 11, none⟩ = some (.slice A' n' c') := by rw [hW.out]; exact K11.out
    clear k10 k11
    by_cases hlt : k < n
    · obtain ⟨y, hyk⟩ : ∃ y, x.pen[k]? = some y := ⟨x.pen[k]'(by have := HL1.out; omega), List.getElem?_eq_getElem (by have := HL1.out; omega)⟩
      obtain ⟨ad1, rfl, _, hc1⟩ := hx'.getU hyk
      by_cases h0 : y < 0
      · have HE : Hid (x.right = false) := HRT.out.trans (Pm.ask_no (fun h => by have := (h.1.2 y (List.mem_of_getElem? hyk)).1; omega))
        clear hyk hx'
        go_wp2
        go_ret
        exact ⟨ret_bool HE.out.symm, by rw [hW.out]; exact hb1.out⟩
      · by_cases h1 : 1000000 < y
        · have HE : Hid (x.right = false) := HRT.out.trans (Pm.ask_no (fun h => by have := (h.1.2 y (List.mem_of_getElem? hyk)).2; omega))
          clear hyk hx'
          go_wp2
          go_ret
          exact ⟨ret_bool HE.out.symm, by rw [hW.out]; exact hb1.out⟩
        · have HS : Hid (∀ m ∈ x.pen.take (k + 1), 0 ≤ m ∧ m ≤ 1000000) := by
            intro m hm
            rw [List.take_add_one, hyk] at hm
            rcases List.mem_append.1 hm with h | h
            · exact hT.out m h
            · simp at h; subst h; omega
          clear hyk hx'
          go_wp2
          go_roundw
          case rel => exact ⟨k + 1, by go_num, by omega, HS, hW⟩
          case measure => simp [intOf]; omega
    · obtain rfl : k = n := by omega
      have HB1 : Hid (Pm.Bd x.pen 16 1000000) := by
        refine ⟨by rw [HL1.out]; omega, ?_⟩
        have h := hT.out
        rw [List.take_of_length_le (by rw [HL1.out]; exact Nat.le_refl _)] at h
        exact h
      clear hT hx' HX1
      go_wp2_with fail
      have K11w := Lib.hid k11'
      have HY2 : Hid (Rd wr B A' (i64s x.ch)) := by rw [hW.out]; exact HY1.out
      have HBW : Hid (Below w.heap.size w wr) := by rw [hW.out]; exact hb1.out
      clear hW HY1 hb1 k10' k11' K10 K11 hlt
      obtain ⟨wp, ew⟩ : ∃ wp, wp = wr := ⟨_, rfl⟩
      subst ew
      go_loopw [4] (fun ix wr => ∃ (j : Nat), ix = .int .i64 (j : Int) ∧ j ≤ n' ∧ Hid (∀ m ∈ x.ch.take j, 0 ≤ m ∧ m ≤ 1099511627776) ∧ Hid (∀ i, i + 1 < j → x.ch.getD i 0 ≤ x.ch.getD (i + 1) 0) ∧ Hid (Below wp.heap.size wp wr)) (fun ix _ => n' - (intOf ix).toNat)
      case atStart => exact ⟨0, rfl, by omega, Lib.hid (fun m h => absurd h List.not_mem_nil), Lib.hid (fun i h => absurd h (Nat.not_lt_zero _)), Lib.hid (Below.refl _ _)⟩
      case round =>
        obtain ⟨j, rfl, hj, hT, hS, hBx⟩ := hrel
        have hbz : w.heap.size < wp.heap.size := World.block_lt_of_cell? wp _ K11w.out
        have hk11x : wr.cell? ⟨w.heap.size, 11, none⟩ = some (.slice A' n' c') := by rw [hBx.out.cell (by exact hbz)]; exact K11w.out
        by_cases hlt : j < n'
        · obtain ⟨y, hyk⟩ : ∃ y, x.ch[j]? = some y := ⟨x.ch[j]'(by have := HL2.out; omega), List.getElem?_eq_getElem (by have := HL2.out; omega)⟩
          have hxr := (HY2.out.below (hBx.out.mono (Nat.le_trans hB HBW.out.size)))
          obtain ⟨ad2, rfl, hadB, hc2⟩ := hxr.getU hyk
          have hadz : ad2.block < wr.heap.size := by have := HBW.out.size; have := hBx.out.size; omega
          have F11 : Hid (∀ W, Below wr.heap.size wr W → W.cell? ⟨w.heap.size, 11, none⟩ = some (.slice (some ad2) n' c')) := fun W h => by
            rw [h.cell (by show w.heap.size < _; have := hBx.out.size; omega)]; exact hk11x
          have FY : Hid (∀ W, Below wr.heap.size wr W → W.cell? (ad2.add j) = some (.int .i64 y)) := fun W h => by
            rw [h.cell (by rw [addr_add_block]; exact hadz)]; exact hc2
          have HYK := Lib.hid hyk
          have hjn : (j : Int) < (n' : Int) := by omega
          have hEND := Lib.hid (HBW.out.trans (hBx.out.mono HBW.out.size)).drew
          have HXR := Lib.hid hxr
          clear hyk hc2 hxr hadB
          go_wp2_with fail
          refine region_C (fun W => Below wr.heap.size wr W) (by kernel_rfl) ?_
          have hC : Below wr.heap.size wr wr.drew := (Below.refl _ _).drew
          refine anyC_take (i := 0) (v := ?v0_88) (a' := ?a0_88) rfl (by kernel_rfl) (by kernel_rfl) (by kernel_rfl) (fun _ _ _ h => h) hC ?w0_88 ?y0_88 ?f0_88 ?r0_88
          case w0_88 => kernel_rfl
          case y0_88 => (intro w hC; go_simp; try with_reducible rfl)
          case f0_88 => (go_simp; try with_reducible rfl)
          refine anyC_take (i := 2) (v := ?v2_89) (a' := ?a2_89) rfl (by kernel_rfl) (by kernel_rfl) (by kernel_rfl) (fun _ _ _ h => h) hC ?w2_89 ?y2_89 ?f2_89 ?r2_89
          case w2_89 => kernel_rfl
          case y2_89 => (intro w hC; go_simp; try with_reducible rfl)
          case f2_89 => (go_simp; try with_reducible rfl)
          refine anyC_take (i := 1) (v := ?v1_90) (a' := ?a1_90) rfl (by kernel_rfl) (by kernel_rfl) (by kernel_rfl) (fun _ _ _ h => h) hC ?w1_90 ?y1_90 ?f1_90 ?r1_90
          case w1_90 => kernel_rfl
          case y1_90 => (intro w hC; have h4 := F11.out w hC; go_simp; try with_reducible rfl)
          case f1_90 => (go_simp; try with_reducible rfl)
          refine anyC_take (i := 3) (v := ?v3_91) (a' := ?a3_91) rfl (by kernel_rfl) (by kernel_rfl) (by kernel_rfl) (fun _ _ _ h => h) hC ?w3_91 ?y3_91 ?f3_91 ?r3_91
          case w3_91 => kernel_rfl
          case y3_91 => (intro w hC; go_simp; try with_reducible rfl)
          case f3_91 => (go_simp; try with_reducible rfl)
          refine anyC_take (i := 4) (v := ?v4_92) (a' := ?a4_92) rfl (by kernel_rfl) (by kernel_rfl) (by kernel_rfl) (fun _ _ _ h => h) hC ?w4_92 ?y4_92 ?f4_92 ?r4_92
          case w4_92 => kernel_rfl
          case y4_92 => (intro w hC; have h4 := FY.out w hC; go_simp; try with_reducible rfl)
          case f4_92 => (go_simp; try with_reducible rfl)
          refine anyC_one (i := 5) rfl (by kernel_rfl) (by kernel_rfl) (fun K hK => ?_)
          go_simp
          refine (in_any y 0 1099511627776 wr.drew).mono ?_
          rintro e w' ⟨rfl, rfl⟩
          refine hK _ _ ⟨hC, ?_⟩
          clear hK K
          by_cases hin : 0 ≤ y ∧ y ≤ 1099511627776
          · have HS1 : Hid (∀ m ∈ x.ch.take (j + 1), 0 ≤ m ∧ m ≤ 1099511627776) := by
              intro m hm
              rw [List.take_add_one, HYK.out] at hm
              rcases List.mem_append.1 hm with h | h
              · exact hT.out m h
              · simp at h; subst h; exact hin
            rw [Pm.ask_yes hin]
            clear hin
            refine anyC_take (i := 6) (v := ?v6_93) (a' := ?a6_93) rfl (by kernel_rfl) (by kernel_rfl) (by kernel_rfl) (fun _ _ _ h => h) hC ?w6_93 ?y6_93 ?f6_93 ?r6_93
            case w6_93 => kernel_rfl
            case y6_93 => (intro w hC; go_simp; try with_reducible rfl)
            case f6_93 => (go_simp; try with_reducible rfl)
            refine anyC_take (i := 7) (v := ?v7_94) (a' := ?a7_94) rfl (by kernel_rfl) (by kernel_rfl) (by kernel_rfl) (fun _ _ _ h => h) hC ?w7_94 ?y7_94 ?f7_94 ?r7_94
            case w7_94 => kernel_rfl
            case y7_94 => (intro w hC; go_simp; try with_reducible rfl)
            case f7_94 => (go_simp; try with_reducible rfl)
            by_cases h0 : j = 0
            · subst h0
              have HS2 : Hid (∀ i, i + 1 < 0 + 1 → x.ch.getD i 0 ≤ x.ch.getD (i + 1) 0) := fun i hi => by omega
              refine anyC_take (i := 8) (v := ?v8_95) (a' := ?a8_95) rfl (by kernel_rfl) (by kernel_rfl) (by kernel_rfl) (fun _ _ _ h => h) hC ?w8_95 ?y8_95 ?f8_95 ?r8_95
              case w8_95 => kernel_rfl
              case y8_95 => (intro w hC; go_simp; try with_reducible rfl)
              case f8_95 => (go_simp; try with_reducible rfl)
              refine anyC_take (i := 9) (v := ?v9_96) (a' := ?a9_96) rfl (by kernel_rfl) (by kernel_rfl) (by kernel_rfl) (fun _ _ _ h => h) hC ?w9_96 ?y9_96 ?f9_96 ?r9_96
              case w9_96 => kernel_rfl
              case y9_96 => (intro w hC; go_simp; try with_reducible rfl)
              case f9_96 => (go_simp; try with_reducible rfl)
              refine anyC_take (i := 10) (v := ?v10_97) (a' := ?a10_97) rfl (by kernel_rfl) (by kernel_rfl) (by kernel_rfl) (fun _ _ _ h => h) hC ?w10_97 ?y10_97 ?f10_97 ?r10_97
              case w10_97 => kernel_rfl
              case y10_97 => (intro w hC; go_simp; try with_reducible rfl)
              case f10_97 => (go_simp; try with_reducible rfl)
              refine anyC_skip (i := 11) (a' := ?a11_98) rfl (by kernel_rfl) (by kernel_rfl) (by kernel_rfl) (fun _ _ _ h => h) hC (by kernel_rfl) ?f11_98 ?r11_98
              case f11_98 => (go_simp; try with_reducible rfl)
              refine anyC_skip (i := 12) (a' := ?a12_99) rfl (by kernel_rfl) (by kernel_rfl) (by kernel_rfl) (fun _ _ _ h => h) hC (by kernel_rfl) ?f12_99 ?r12_99
              case f12_99 => (go_simp; try with_reducible rfl)
              refine anyC_skip (i := 13) (a' := ?a13_100) rfl (by kernel_rfl) (by kernel_rfl) (by kernel_rfl) (fun _ _ _ h => h) hC (by kernel_rfl) ?f13_100 ?r13_100
              case f13_100 => (go_simp; try with_reducible rfl)
              refine anyC_skip (i := 14) (a' := ?a14_101) rfl (by kernel_rfl) (by kernel_rfl) (by kernel_rfl) (fun _ _ _ h => h) hC (by kernel_rfl) ?f14_101 ?r14_101
              case f14_101 => (go_simp; try with_reducible rfl)
              refine anyC_skip (i := 15) (a' := ?a15_102) rfl (by kernel_rfl) (by kernel_rfl) (by kernel_rfl) (fun _ _ _ h => h) hC (by kernel_rfl) ?f15_102 ?r15_102
              case f15_102 => (go_simp; try with_reducible rfl)
              refine anyC_skip (i := 16) (a' := ?a16_103) rfl (by kernel_rfl) (by kernel_rfl) (by kernel_rfl) (fun _ _ _ h => h) hC (by kernel_rfl) ?f16_103 ?r16_103
              case f16_103 => (go_simp; try with_reducible rfl)
              refine anyC_skip (i := 17) (a' := ?a17_104) rfl (by kernel_rfl) (by kernel_rfl) (by kernel_rfl) (fun _ _ _ h => h) hC (by kernel_rfl) ?f17_104 ?r17_104
              case f17_104 => (go_simp; try with_reducible rfl)
              refine anyC_skip (i := 18) (a' := ?a18_105) rfl (by kernel_rfl) (by kernel_rfl) (by kernel_rfl) (fun _ _ _ h => h) hC (by kernel_rfl) ?f18_105 ?r18_105
              case f18_105 => (go_simp; try with_reducible rfl)
              refine anyC_skip (i := 19) (a' := ?a19_106) rfl (by kernel_rfl) (by kernel_rfl) (by kernel_rfl) (fun _ _ _ h => h) hC (by kernel_rfl) ?f19_106 ?r19_106
              case f19_106 => (go_simp; try with_reducible rfl)
              refine anyC_skip (i := 20) (a' := ?a20_107) rfl (by kernel_rfl) (by kernel_rfl) (by kernel_rfl) (fun _ _ _ h => h) hC (by kernel_rfl) ?f20_107 ?r20_107
              case f20_107 => (go_simp; try with_reducible rfl)
              refine anyC_skip (i := 21) (a' := ?a21_108) rfl (by kernel_rfl) (by kernel_rfl) (by kernel_rfl) (fun _ _ _ h => h) hC (by kernel_rfl) ?f21_108 ?r21_108
              case f21_108 => (go_simp; try with_reducible rfl)
              refine anyC_skip (i := 22) (a' := ?a22_109) rfl (by kernel_rfl) (by kernel_rfl) (by kernel_rfl) (fun _ _ _ h => h) hC (by kernel_rfl) ?f22_109 ?r22_109
              case f22_109 => (go_simp; try with_reducible rfl)
              refine anyC_take (i := 23) (v := ?v23_110) (a' := ?a23_110) rfl (by kernel_rfl) (by kernel_rfl) (by kernel_rfl) (fun _ _ _ h => h) hC ?w23_110 ?y23_110 ?f23_110 ?r23_110
              case w23_110 => kernel_rfl
              case y23_110 => (intro w hC; go_simp; try with_reducible rfl)
              case f23_110 => (go_simp; try with_reducible rfl)
              refine anyC_take (i := 24) (v := ?v24_111) (a' := ?a24_111) rfl (by kernel_rfl) (by kernel_rfl) (by kernel_rfl) (fun _ _ _ h => h) hC ?w24_111 ?y24_111 ?f24_111 ?r24_111
              case w24_111 => kernel_rfl
              case y24_111 => (intro w hC; go_simp; try with_reducible rfl)
              case f24_111 => (go_simp; try with_reducible rfl)
              refine anyC_done (by kernel_rfl) ?_
              go_wp2
              go_roundw
              case rel => exact ⟨0 + 1, by go_num, by omega, HS1, HS2, Lib.hid hBx.out.drew⟩
              case measure => simp [intOf]; omega
            · obtain ⟨i, hi⟩ : ∃ i, j = i + 1 := ⟨j - 1, by omega⟩
              have hj0 : decide ((0 : Int) < (j : Int)) = true := by simp; omega
              have hj1 : decide (0 < j) = true := by simp; omega
              have hj2 : 0 < j := by omega
              obtain ⟨z, hzk⟩ : ∃ z, x.ch[i]? = some z := ⟨x.ch[i]'(by have := HL2.out; omega), List.getElem?_eq_getElem (by have := HL2.out; omega)⟩
              obtain ⟨ad3, e3, _, hc3⟩ := HXR.out.getU hzk
              obtain rfl : ad2 = ad3 := by injection e3
              have FZ : Hid (∀ W, Below wr.heap.size wr W → W.cell? (ad2.add i) = some (.int .i64 z)) := fun W h => by
                rw [h.cell (by rw [addr_add_block]; exact hadz)]; exact hc3
              have hin : (i : Int) < (n' : Int) := by omega
              have hi1 : (j : Int) - 1 = (i : Int) := by omega
              have hi3 : IntKind.i64.wrap (i : Int) = (i : Int) := wrap_id (by omega) (by omega)
              have hi2 : IntKind.i64.wrap ((j : Int) - 1) = (i : Int) := by rw [hi1]; exact wrap_id (by omega) (by omega)
              have hle : Hid ((Pm.Sd x.ch → z ≤ y) ∧ (z ≤ y → ∀ a, a + 1 < j + 1 → x.ch.getD a 0 ≤ x.ch.getD (a + 1) 0)) := by
                have hy1 := HYK.out
                rw [hi] at hy1
                have hil : i + 1 < x.ch.length := (List.getElem?_eq_some_iff.1 hy1).1
                refine ⟨fun h => ?_, fun h a ha => ?_⟩
                · have := h i hil
                  rw [List.getD_eq_getElem?_getD, List.getD_eq_getElem?_getD, hzk, hy1] at this
                  exact this
                · by_cases e : a = i
                  · subst e
                    rw [List.getD_eq_getElem?_getD, List.getD_eq_getElem?_getD, hzk, hy1]
                    exact h
                  · exact hS.out a (by omega)
              clear hc3 hzk e3 h0 hi
              refine anyC_take (i := 8) (v := ?v8_112) (a' := ?a8_112) rfl (by kernel_rfl) (by kernel_rfl) (by kernel_rfl) (fun _ _ _ h => h) hC ?w8_112 ?y8_112 ?f8_112 ?r8_112
              case w8_112 => kernel_rfl
              case y8_112 => (intro w hC; go_simp; try with_reducible rfl)
              case f8_112 => (go_simp; try with_reducible rfl)
              refine anyC_take (i := 9) (v := ?v9_113) (a' := ?a9_113) rfl (by kernel_rfl) (by kernel_rfl) (by kernel_rfl) (fun _ _ _ h => h) hC ?w9_113 ?y9_113 ?f9_113 ?r9_113
              case w9_113 => kernel_rfl
              case y9_113 => (intro w hC; go_simp; try with_reducible rfl)
              case f9_113 => (go_simp; try with_reducible rfl)
              refine anyC_take (i := 10) (v := ?v10_114) (a' := ?a10_114) rfl (by kernel_rfl) (by kernel_rfl) (by kernel_rfl) (fun _ _ _ h => h) hC ?w10_114 ?y10_114 ?f10_114 ?r10_114
              case w10_114 => kernel_rfl
              case y10_114 => (intro w hC; go_simp; try with_reducible rfl)
              case f10_114 => (go_simp; try with_reducible rfl)
              refine anyC_take (i := 11) (v := ?v11_115) (a' := ?a11_115) rfl (by kernel_rfl) (by kernel_rfl) (by kernel_rfl) (fun _ _ _ h => h) hC ?w11_115 ?y11_115 ?f11_115 ?r11_115
              case w11_115 => kernel_rfl
              case y11_115 => (intro w hC; go_simp; try with_reducible rfl)
              case f11_115 => (go_simp; try with_reducible rfl)
              refine anyC_take (i := 13) (v := ?v13_116) (a' := ?a13_116) rfl (by kernel_rfl) (by kernel_rfl) (by kernel_rfl) (fun _ _ _ h => h) hC ?w13_116 ?y13_116 ?f13_116 ?r13_116
              case w13_116 => kernel_rfl
              case y13_116 => (intro w hC; go_simp; try with_reducible rfl)
              case f13_116 => (go_simp; try with_reducible rfl)
              refine anyC_take (i := 17) (v := ?v17_117) (a' := ?a17_117) rfl (by kernel_rfl) (by kernel_rfl) (by kernel_rfl) (fun _ _ _ h => h) hC ?w17_117 ?y17_117 ?f17_117 ?r17_117
              case w17_117 => kernel_rfl
              case y17_117 => (intro w hC; go_simp; try with_reducible rfl)
              case f17_117 => (go_simp; try with_reducible rfl)
              refine anyC_take (i := 19) (v := ?v19_118) (a' := ?a19_118) rfl (by kernel_rfl) (by kernel_rfl) (by kernel_rfl) (fun _ _ _ h => h) hC ?w19_118 ?y19_118 ?f19_118 ?r19_118
              case w19_118 => kernel_rfl
              case y19_118 => (intro w hC; go_simp; try with_reducible rfl)
              case f19_118 => (go_simp; try with_reducible rfl)
              refine anyC_take (i := 12) (v := ?v12_119) (a' := ?a12_119) rfl (by kernel_rfl) (by kernel_rfl) (by kernel_rfl) (fun _ _ _ h => h) hC ?w12_119 ?y12_119 ?f12_119 ?r12_119
              case w12_119 => kernel_rfl
              case y12_119 => (intro w hC; have h4 := F11.out w hC; go_simp; try with_reducible rfl)
              case f12_119 => (go_simp; try with_reducible rfl)
              refine anyC_take (i := 18) (v := ?v18_120) (a' := ?a18_120) rfl (by kernel_rfl) (by kernel_rfl) (by kernel_rfl) (fun _ _ _ h => h) hC ?w18_120 ?y18_120 ?f18_120 ?r18_120
              case w18_120 => kernel_rfl
              case y18_120 => (intro w hC; have h4 := F11.out w hC; go_simp; try with_reducible rfl)
              case f18_120 => (go_simp; try with_reducible rfl)
              refine anyC_take (i := 14) (v := ?v14_121) (a' := ?a14_121) rfl (by kernel_rfl) (by kernel_rfl) (by kernel_rfl) (fun _ _ _ h => h) hC ?w14_121 ?y14_121 ?f14_121 ?r14_121
              case w14_121 => kernel_rfl
              case y14_121 => (intro w hC; go_simp; try with_reducible rfl)
              case f14_121 => (go_simp; try with_reducible rfl)
              refine anyC_take (i := 15) (v := ?v15_122) (a' := ?a15_122) rfl (by kernel_rfl) (by kernel_rfl) (by kernel_rfl) (fun _ _ _ h => h) hC ?w15_122 ?y15_122 ?f15_122 ?r15_122
              case w15_122 => kernel_rfl
              case y15_122 => (intro w hC; go_simp; try with_reducible rfl)
              case f15_122 => (go_simp; try with_reducible rfl)
              refine anyC_take (i := 16) (v := ?v16_123) (a' := ?a16_123) rfl (by kernel_rfl) (by kernel_rfl) (by kernel_rfl) (fun _ _ _ h => h) hC ?w16_123 ?y16_123 ?f16_123 ?r16_123
              case w16_123 => kernel_rfl
              case y16_123 => (intro w hC; have h4 := FZ.out w hC; go_simp; try with_reducible rfl)
              case f16_123 => (go_simp; try with_reducible rfl)
              refine anyC_take (i := 20) (v := ?v20_124) (a' := ?a20_124) rfl (by kernel_rfl) (by kernel_rfl) (by kernel_rfl) (fun _ _ _ h => h) hC ?w20_124 ?y20_124 ?f20_124 ?r20_124
              case w20_124 => kernel_rfl
              case y20_124 => (intro w hC; go_simp; try with_reducible rfl)
              case f20_124 => (go_simp; try with_reducible rfl)
              refine anyC_take (i := 21) (v := ?v21_125) (a' := ?a21_125) rfl (by kernel_rfl) (by kernel_rfl) (by kernel_rfl) (fun _ _ _ h => h) hC ?w21_125 ?y21_125 ?f21_125 ?r21_125
              case w21_125 => kernel_rfl
              case y21_125 => (intro w hC; have h4 := FY.out w hC; go_simp; try with_reducible rfl)
              case f21_125 => (go_simp; try with_reducible rfl)
              by_cases hzy : y < z
              · have hd : decide (y < z) = true := by simpa using hzy
                have HE : Hid (x.right = false) := HRT.out.trans (Pm.ask_no (fun h => by have := hle.out.1 h.2.2; omega))
                clear hle hzy
                refine anyC_take (i := 22) (v := ?v22_126) (a' := ?a22_126) rfl (by kernel_rfl) (by kernel_rfl) (by kernel_rfl) (fun _ _ _ h => h) hC ?w22_126 ?y22_126 ?f22_126 ?r22_126
                case w22_126 => kernel_rfl
                case y22_126 => (intro w hC; go_simp; try with_reducible rfl)
                case f22_126 => (go_simp; try with_reducible rfl)
                refine anyC_take (i := 23) (v := ?v23_127) (a' := ?a23_127) rfl (by kernel_rfl) (by kernel_rfl) (by kernel_rfl) (fun _ _ _ h => h) hC ?w23_127 ?y23_127 ?f23_127 ?r23_127
                case w23_127 => kernel_rfl
                case y23_127 => (intro w hC; go_simp; try with_reducible rfl)
                case f23_127 => (go_simp; try with_reducible rfl)
                refine anyC_take (i := 24) (v := ?v24_128) (a' := ?a24_128) rfl (by kernel_rfl) (by kernel_rfl) (by kernel_rfl) (fun _ _ _ h => h) hC ?w24_128 ?y24_128 ?f24_128 ?r24_128
                case w24_128 => kernel_rfl
                case y24_128 => (intro w hC; go_simp; try with_reducible rfl)
                case f24_128 => (go_simp; try with_reducible rfl)
                refine anyC_done (by kernel_rfl) ?_
                go_wp2
                go_ret
                exact ⟨ret_bool HE.out.symm, hEND.out⟩
              · have hd : decide (y < z) = false := by simpa using hzy
                have HS2 := Lib.hid (hle.out.2 (by omega))
                clear hle hzy
                refine anyC_take (i := 22) (v := ?v22_129) (a' := ?a22_129) rfl (by kernel_rfl) (by kernel_rfl) (by kernel_rfl) (fun _ _ _ h => h) hC ?w22_129 ?y22_129 ?f22_129 ?r22_129
                case w22_129 => kernel_rfl
                case y22_129 => (intro w hC; go_simp; try with_reducible rfl)
                case f22_129 => (go_simp; try with_reducible rfl)
                refine anyC_take (i := 23) (v := ?v23_130) (a' := ?a23_130) rfl (by kernel_rfl) (by kernel_rfl) (by kernel_rfl) (fun _ _ _ h => h) hC ?w23_130 ?y23_130 ?f23_130 ?r23_130
                case w23_130 => kernel_rfl
                case y23_130 => (intro w hC; go_simp; try with_reducible rfl)
                case f23_130 => (go_simp; try with_reducible rfl)
                refine anyC_take (i := 24) (v := ?v24_131) (a' := ?a24_131) rfl (by kernel_rfl) (by kernel_rfl) (by kernel_rfl) (fun _ _ _ h => h) hC ?w24_131 ?y24_131 ?f24_131 ?r24_131
                case w24_131 => kernel_rfl
                case y24_131 => (intro w hC; go_simp; try with_reducible rfl)
                case f24_131 => (go_simp; try with_reducible rfl)
                refine anyC_done (by kernel_rfl) ?_
                go_wp2
                go_roundw
                case rel => exact ⟨j + 1, by go_num, by omega, HS1, HS2, Lib.hid hBx.out.drew⟩
                case measure => simp [intOf]; omega
          · have HE : Hid (x.right = false) := HRT.out.trans (Pm.ask_no (fun h => hin (h.2.1.2 y (List.mem_of_getElem? HYK.out))))
            rw [Pm.ask_no hin]
            clear hin
            refine anyC_take (i := 6) (v := ?v6_132) (a' := ?a6_132) rfl (by kernel_rfl) (by kernel_rfl) (by kernel_rfl) (fun _ _ _ h => h) hC ?w6_132 ?y6_132 ?f6_132 ?r6_132
            case w6_132 => kernel_rfl
            case y6_132 => (intro w hC; go_simp; try with_reducible rfl)
            case f6_132 => (go_simp; try with_reducible rfl)
            refine anyC_take (i := 7) (v := ?v7_133) (a' := ?a7_133) rfl (by kernel_rfl) (by kernel_rfl) (by kernel_rfl) (fun _ _ _ h => h) hC ?w7_133 ?y7_133 ?f7_133 ?r7_133
            case w7_133 => kernel_rfl
            case y7_133 => (intro w hC; go_simp; try with_reducible rfl)
            case f7_133 => (go_simp; try with_reducible rfl)
            refine anyC_skip (i := 8) (a' := ?a8_134) rfl (by kernel_rfl) (by kernel_rfl) (by kernel_rfl) (fun _ _ _ h => h) hC (by kernel_rfl) ?f8_134 ?r8_134
            case f8_134 => (go_simp; try with_reducible rfl)
            refine anyC_skip (i := 9) (a' := ?a9_135) rfl (by kernel_rfl) (by kernel_rfl) (by kernel_rfl) (fun _ _ _ h => h) hC (by kernel_rfl) ?f9_135 ?r9_135
            case f9_135 => (go_simp; try with_reducible rfl)
            refine anyC_skip (i := 10) (a' := ?a10_136) rfl (by kernel_rfl) (by kernel_rfl) (by kernel_rfl) (fun _ _ _ h => h) hC (by kernel_rfl) ?f10_136 ?r10_136
            case f10_136 => (go_simp; try with_reducible rfl)
            refine anyC_skip (i := 11) (a' := ?a11_137) rfl (by kernel_rfl) (by kernel_rfl) (by kernel_rfl) (fun _ _ _ h => h) hC (by kernel_rfl) ?f11_137 ?r11_137
            case f11_137 => (go_simp; try with_reducible rfl)
            refine anyC_skip (i := 12) (a' := ?a12_138) rfl (by kernel_rfl) (by kernel_rfl) (by kernel_rfl) (fun _ _ _ h => h) hC (by kernel_rfl) ?f12_138 ?r12_138
            case f12_138 => (go_simp; try with_reducible rfl)
            refine anyC_skip (i := 13) (a' := ?a13_139) rfl (by kernel_rfl) (by kernel_rfl) (by kernel_rfl) (fun _ _ _ h => h) hC (by kernel_rfl) ?f13_139 ?r13_139
            case f13_139 => (go_simp; try with_reducible rfl)
            refine anyC_skip (i := 14) (a' := ?a14_140) rfl (by kernel_rfl) (by kernel_rfl) (by kernel_rfl) (fun _ _ _ h => h) hC (by kernel_rfl) ?f14_140 ?r14_140
            case f14_140 => (go_simp; try with_reducible rfl)
            refine anyC_skip (i := 15) (a' := ?a15_141) rfl (by kernel_rfl) (by kernel_rfl) (by kernel_rfl) (fun _ _ _ h => h) hC (by kernel_rfl) ?f15_141 ?r15_141
            case f15_141 => (go_simp; try with_reducible rfl)
            refine anyC_skip (i := 16) (a' := ?a16_142) rfl (by kernel_rfl) (by kernel_rfl) (by kernel_rfl) (fun _ _ _ h => h) hC (by kernel_rfl) ?f16_142 ?r16_142
            case f16_142 => (go_simp; try with_reducible rfl)
            refine anyC_skip (i := 17) (a' := ?a17_143) rfl (by kernel_rfl) (by kernel_rfl) (by kernel_rfl) (fun _ _ _ h => h) hC (by kernel_rfl) ?f17_143 ?r17_143
            case f17_143 => (go_simp; try with_reducible rfl)
            refine anyC_skip (i := 18) (a' := ?a18_144) rfl (by kernel_rfl) (by kernel_rfl) (by kernel_rfl) (fun _ _ _ h => h) hC (by kernel_rfl) ?f18_144 ?r18_144
            case f18_144 => (go_simp; try with_reducible rfl)
            refine anyC_skip (i := 19) (a' := ?a19_145) rfl (by kernel_rfl) (by kernel_rfl) (by kernel_rfl) (fun _ _ _ h => h) hC (by kernel_rfl) ?f19_145 ?r19_145
            case f19_145 => (go_simp; try with_reducible rfl)
            refine anyC_skip (i := 20) (a' := ?a20_146) rfl (by kernel_rfl) (by kernel_rfl) (by kernel_rfl) (fun _ _ _ h => h) hC (by kernel_rfl) ?f20_146 ?r20_146
            case f20_146 => (go_simp; try with_reducible rfl)
            refine anyC_skip (i := 21) (a' := ?a21_147) rfl (by kernel_rfl) (by kernel_rfl) (by kernel_rfl) (fun _ _ _ h => h) hC (by kernel_rfl) ?f21_147 ?r21_147
            case f21_147 => (go_simp; try with_reducible rfl)
            refine anyC_skip (i := 22) (a' := ?a22_148) rfl (by kernel_rfl) (by kernel_rfl) (by kernel_rfl) (fun _ _ _ h => h) hC (by kernel_rfl) ?f22_148 ?r22_148
            case f22_148 => (go_simp; try with_reducible rfl)
            refine anyC_skip (i := 23) (a' := ?a23_149) rfl (by kernel_rfl) (by kernel_rfl) (by kernel_rfl) (fun _ _ _ h => h) hC (by kernel_rfl) ?f23_149 ?r23_149
            case f23_149 => (go_simp; try with_reducible rfl)
            refine anyC_take (i := 24) (v := ?v24_150) (a' := ?a24_150) rfl (by kernel_rfl) (by kernel_rfl) (by kernel_rfl) (fun _ _ _ h => h) hC ?w24_150 ?y24_150 ?f24_150 ?r24_150
            case w24_150 => kernel_rfl
            case y24_150 => (intro w hC; go_simp; try with_reducible rfl)
            case f24_150 => (go_simp; try with_reducible rfl)
            refine anyC_done (by kernel_rfl) ?_
            go_wp2
            go_ret
            exact ⟨ret_bool HE.out.symm, hEND.out⟩
        · obtain rfl : j = n' := by omega
          have HE : Hid (x.right = true) := by
            refine HRT.out.trans (Pm.ask_yes ⟨HB1.out, ⟨by rw [HL2.out]; omega, ?_⟩, fun i hi => hS.out i (by rw [HL2.out] at hi; exact hi)⟩)
            have h := hT.out
            rw [List.take_of_length_le (by rw [HL2.out]; exact Nat.le_refl _)] at h
            exact h
          have hEND := Lib.hid (HBW.out.trans (hBx.out.mono HBW.out.size))
          clear hT hS
          go_wp2
          go_ret
          exact ⟨ret_bool HE.out.symm, hEND.out⟩
end Go.Proofs.YtdcdlnmgbgeeeaaDoor
