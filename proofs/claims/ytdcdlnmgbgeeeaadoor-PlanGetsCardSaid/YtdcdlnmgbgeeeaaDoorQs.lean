/- Whether a plan is right, further: the document's. -/
import Derived.Test.YtdcdlnmgbgeeeaaDoorQr
namespace Go.Proofs.YtdcdlnmgbgeeeaaDoor
open Go.RowKit Go.Shelf

set_option maxRecDepth 100000 in
set_option maxHeartbeats 8000000 in
theorem RRight_any (x : Pm.Pl) (A : Option Addr) (n c : Nat) (A' : Option Addr) (n' c' : Nat) (B : Nat) (w : World) (hp : PlAt w B x A n c A' n' c') (hB : B ≤ w.heap.size) :
    Calls Tryd.prog 14 #[pv x A n c A' n' c'] w fun e w' => e = .returned (.bool x.right) ∧ Below w.heap.size w w' := by
  by_cases hsm : Pm.Small x ∧ n ≤ 16 ∧ n' ≤ 8
  case neg => exact RRight_no x A n c A' n' c' B w hp hsm
  obtain ⟨hsm, hn16, hn8⟩ := hsm
  have hx1 := Bx.new w x A n c A' n' c' 26
  have hb1 := Lib.hid ((Below.refl w.heap.size w).alloc (Nat.le_refl _) (.cells (pvs x A n c A' n' c').toArray 26))
  have HRT : Hid (x.right = Pm.ask (Pm.Bd x.pen 16 1000000 ∧ Pm.Bd x.ch 8 1099511627776 ∧ Pm.Sd x.ch)) := congrArg Pm.ask (propext ((Pm.rt_iff hp.ok).trans ⟨fun h => h.2, fun h => ⟨hsm, h⟩⟩))
  unfold Pm.Small at hsm
  have hl1 := hp.l1
  have hl2 := hp.l2
  have hm1 := hp.c1
  have hm2 := hp.c2
  have HX := Lib.hid hp.r1
  have HY := Lib.hid hp.r2
  have k0 := hx1.at 0 rfl
  have k1 := hx1.at 1 rfl
  have k2 := hx1.at 2 rfl
  have k3 := hx1.at 3 rfl
  have k4 := hx1.at 4 rfl
  have k5 := hx1.at 5 rfl
  have k6 := hx1.at 6 rfl
  have k7 := hx1.at 7 rfl
  have k8 := hx1.at 8 rfl
  have k9 := hx1.at 9 rfl
  have k10 := hx1.pen
  have k11 := hx1.ch
  clear hx1 hp
  rw [pv_eq]
  generalize pvs x A n c A' n' c' = L at *
  generalize x.e = xe at *
  generalize x.t = xt at *
  generalize x.p = xp at *
  generalize x.s = xs at *
  generalize x.c = xc at *
  generalize x.st = xst at *
  generalize x.si = xsi at *
  generalize x.ra = xra at *
  generalize x.up = xup at *
  generalize x.su = xsu at *
  obtain ⟨d0, d1, d2, d3, d4, d5, d6, d7, d8, q1, q2, q3, d9, d10⟩ := hsm
  have HL1 := Lib.hid hl1
  have HL2 := Lib.hid hl2
  have I1 := Lib.hid (in_any xst 0 1099511627776 (w.alloc (.cells L.toArray 26)))
  have I2 := Lib.hid (in_any xsi 0 1099511627776 (w.alloc (.cells L.toArray 26)))
  have I3 := Lib.hid (in_any xra 0 1099511627776 (w.alloc (.cells L.toArray 26)))
  rw [Pm.ask_yes q1] at I1
  rw [Pm.ask_yes q2] at I2
  rw [Pm.ask_yes q3] at I3
  have e0 : ¬ xe < 0 := by omega
  have e1 : ¬ xt < -1 := by omega
  have e2 : ¬ 16 ≤ xt := by omega
  have e3 : ¬ xp < -1 := by omega
  have e4 : ¬ 16 ≤ xp := by omega
  have e5 : ¬ xs < -1 := by omega
  have e6 : ¬ 16 ≤ xs := by omega
  have e7 : ¬ xc < 0 := by omega
  have e8 : ¬ 100 < xc := by omega
  have e9 : ¬ 65535 < xup := by omega
  have e10 : ¬ 65535 < xsu := by omega
  have e11 : ¬ 16 < n := by omega
  have e12 : ¬ 8 < n' := by omega
  clear hl1 hl2 q1 q2 q3 d0 d1 d2 d3 d4 d5 d6 d7 d8 d9 d10
  go_enter Tryd.func14, Tryd.ntmps14
  go_wp2_with (go_at_call 26; fail)
  refine I1.out.mono ?_
  rintro e w' ⟨rfl, rfl⟩
  go_wp2_with (go_at_call 26; fail)
  refine I2.out.mono ?_
  rintro e w' ⟨rfl, rfl⟩
  go_wp2_with (go_at_call 26; fail)
  refine I3.out.mono ?_
  rintro e w' ⟨rfl, rfl⟩
  clear I1 I2 I3
  go_wp2_with fail
  have HX1 := Lib.hid (HX.out.below (hb1.out.mono hB))
  have HY1 := Lib.hid (HY.out.below (hb1.out.mono hB))
  clear k0 k1 k2 k3 k4 k5 k6 k7 k8 k9 e0 e1 e2 e3 e4 e5 e6 e7 e8 e9 e10 e11 e12 HX HY
  have K10 := Lib.hid k10
  have K11 := Lib.hid k11
  go_loopw [3] (fun ix wr => ∃ (k : Nat), ix = .int .i64 (k : Int) ∧ k ≤ n ∧ Hid (∀ m ∈ x.pen.take k, 0 ≤ m ∧ m ≤ 1000000) ∧ Hid (wr = w.alloc (.cells L.toArray 26))) (fun ix _ => n - (intOf ix).toNat)
  case atStart => exact ⟨0, rfl, by omega, Lib.hid (fun m h => absurd h List.not_mem_nil), Lib.hid rfl⟩
  case round =>
    obtain ⟨k, rfl, hk, hT, hW⟩ := hrel
    have hx' : Rd wr B A (i64s x.pen) := by rw [hW.out]; exact HX1.out
    have k10' : wr.cell? ⟨w.heap.size, 10, none⟩ = some (.slice A n c) := by rw [hW.out]; exact K10.out
    have k11' : wr.cell? ⟨w.heap.size, 11, none⟩ = some (.slice A' n' c') := by rw [hW.out]; exact K11.out
    clear k10 k11
    by_cases hlt : k < n
    · obtain ⟨y, hyk⟩ : ∃ y, x.pen[k]? = some y := ⟨x.pen[k]'(by have := HL1.out; omega), List.getElem?_eq_getElem (by have := HL1.out; omega)⟩
      obtain ⟨ad1, rfl, _, hc1⟩ := hx'.getU hyk
      by_cases h0 : y < 0
      · have HE : Hid (x.right = false) := HRT.out.trans (Pm.ask_no (fun h => by have := (h.1.2 y (List.mem_of_getElem? hyk)).1; omega))
        clear hyk hx'
        go_wp2
        go_ret
        exact ⟨ret_bool HE.out.symm, by rw [hW.out]; exact hb1.out⟩
      · by_cases h1 : 1000000 < y
        · have HE : Hid (x.right = false) := HRT.out.trans (Pm.ask_no (fun h => by have := (h.1.2 y (List.mem_of_getElem? hyk)).2; omega))
          clear hyk hx'
          go_wp2
          go_ret
          exact ⟨ret_bool HE.out.symm, by rw [hW.out]; exact hb1.out⟩
        · have HS : Hid (∀ m ∈ x.pen.take (k + 1), 0 ≤ m ∧ m ≤ 1000000) := by
            intro m hm
            rw [List.take_add_one, hyk] at hm
            rcases List.mem_append.1 hm with h | h
            · exact hT.out m h
            · simp at h; subst h; omega
          clear hyk hx'
          go_wp2
          go_roundw
          case rel => exact ⟨k + 1, by go_num, by omega, HS, hW⟩
          case measure => simp [intOf]; omega
    · obtain rfl : k = n := by omega
      have HB1 : Hid (Pm.Bd x.pen 16 1000000) := by
        refine ⟨by rw [HL1.out]; omega, ?_⟩
        have h := hT.out
        rw [List.take_of_length_le (by rw [HL1.out]; exact Nat.le_refl _)] at h
        exact h
      clear hT hx' HX1
      go_wp2_with fail
      have K11w := Lib.hid k11'
      have HY2 : Hid (Rd wr B A' (i64s x.ch)) := by rw [hW.out]; exact HY1.out
      have HBW : Hid (Below w.heap.size w wr) := by rw [hW.out]; exact hb1.out
      clear hW HY1 hb1 k10' k11' K10 K11 hlt
      obtain ⟨wp, ew⟩ : ∃ wp, wp = wr := ⟨_, rfl⟩
      subst ew
      go_loopw [4] (fun ix wr => ∃ (j : Nat), ix = .int .i64 (j : Int) ∧ j ≤ n' ∧ Hid (∀ m ∈ x.ch.take j, 0 ≤ m ∧ m ≤ 1099511627776) ∧ Hid (∀ i, i + 1 < j → x.ch.getD i 0 ≤ x.ch.getD (i + 1) 0) ∧ Hid (Below wp.heap.size wp wr)) (fun ix _ => n' - (intOf ix).toNat)
      case atStart => exact ⟨0, rfl, by omega, Lib.hid (fun m h => absurd h List.not_mem_nil), Lib.hid (fun i h => absurd h (Nat.not_lt_zero _)), Lib.hid (Below.refl _ _)⟩
      case round =>
        obtain ⟨j, rfl, hj, hT, hS, hBx⟩ := hrel
        have hbz : w.heap.size < wp.heap.size := World.block_lt_of_cell? wp _ K11w.out
        have hk11x : wr.cell? ⟨w.heap.size, 11, none⟩ = some (.slice A' n' c') := by rw [hBx.out.cell (by exact hbz)]; exact K11w.out
        by_cases hlt : j < n'
        · obtain ⟨y, hyk⟩ : ∃ y, x.ch[j]? = some y := ⟨x.ch[j]'(by have := HL2.out; omega), List.getElem?_eq_getElem (by have := HL2.out; omega)⟩
          have hxr := (HY2.out.below (hBx.out.mono (Nat.le_trans hB HBW.out.size)))
          obtain ⟨ad2, rfl, hadB, hc2⟩ := hxr.getU hyk
          have hadz : ad2.block < wr.heap.size := by have := HBW.out.size; have := hBx.out.size; omega
          have F11 : Hid (∀ W, Below wr.heap.size wr W → W.cell? ⟨w.heap.size, 11, none⟩ = some (.slice (some ad2) n' c')) := fun W h => by
            rw [h.cell (by show w.heap.size < _; have := hBx.out.size; omega)]; exact hk11x
          have FY : Hid (∀ W, Below wr.heap.size wr W → W.cell? (ad2.add j) = some (.int .i64 y)) := fun W h => by
            rw [h.cell (by rw [addr_add_block]; exact hadz)]; exact hc2
          have HYK := Lib.hid hyk
          have hjn : (j : Int) < (n' : Int) := by omega
          have hEND := Lib.hid (HBW.out.trans (hBx.out.mono HBW.out.size)).drew
          have HXR := Lib.hid hxr
          clear hyk hc2 hxr hadB
          go_wp2_with fail
          refine region_C (fun W => Below wr.heap.size wr W) (by kernel_rfl) ?_
          have hC : Below wr.heap.size wr wr.drew := (Below.refl _ _).drew
          refine anyC_take (i := 0) (v := ?v0_158) (a' := ?a0_158) rfl (by kernel_rfl) (by kernel_rfl) (by kernel_rfl) (fun _ _ _ h => h) hC ?w0_158 ?y0_158 ?f0_158 ?r0_158
          case w0_158 => kernel_rfl
          case y0_158 => (intro w hC; go_simp; try with_reducible rfl)
          case f0_158 => (go_simp; try with_reducible rfl)
          refine anyC_take (i := 2) (v := ?v2_159) (a' := ?a2_159) rfl (by kernel_rfl) (by kernel_rfl) (by kernel_rfl) (fun _ _ _ h => h) hC ?w2_159 ?y2_159 ?f2_159 ?r2_159
          case w2_159 => kernel_rfl
          case y2_159 => (intro w hC; go_simp; try with_reducible rfl)
          case f2_159 => (go_simp; try with_reducible rfl)
          refine anyC_take (i := 1) (v := ?v1_160) (a' := ?a1_160) rfl (by kernel_rfl) (by kernel_rfl) (by kernel_rfl) (fun _ _ _ h => h) hC ?w1_160 ?y1_160 ?f1_160 ?r1_160
          case w1_160 => kernel_rfl
          case y1_160 => (intro w hC; have h4 := F11.out w hC; go_simp; try with_reducible rfl)
          case f1_160 => (go_simp; try with_reducible rfl)
          refine anyC_take (i := 3) (v := ?v3_161) (a' := ?a3_161) rfl (by kernel_rfl) (by kernel_rfl) (by kernel_rfl) (fun _ _ _ h => h) hC ?w3_161 ?y3_161 ?f3_161 ?r3_161
          case w3_161 => kernel_rfl
          case y3_161 => (intro w hC; go_simp; try with_reducible rfl)
          case f3_161 => (go_simp; try with_reducible rfl)
          refine anyC_take (i := 4) (v := ?v4_162) (a' := ?a4_162) rfl (by kernel_rfl) (by kernel_rfl) (by kernel_rfl) (fun _ _ _ h => h) hC ?w4_162 ?y4_162 ?f4_162 ?r4_162
          case w4_162 => kernel_rfl
          case y4_162 => (intro w hC; have h4 := FY.out w hC; go_simp; try with_reducible rfl)
          case f4_162 => (go_simp; try with_reducible rfl)
          refine anyC_one (i := 5) rfl (by kernel_rfl) (by kernel_rfl) (fun K hK => ?_)
          go_simp
          refine (in_any y 0 1099511627776 wr.drew).mono ?_
          rintro e w' ⟨rfl, rfl⟩
          refine hK _ _ ⟨hC, ?_⟩
          clear hK K
          by_cases hin : 0 ≤ y ∧ y ≤ 1099511627776
          · have HS1 : Hid (∀ m ∈ x.ch.take (j + 1), 0 ≤ m ∧ m ≤ 1099511627776) := by
              intro m hm
              rw [List.take_add_one, HYK.out] at hm
              rcases List.mem_append.1 hm with h | h
              · exact hT.out m h
              · simp at h; subst h; exact hin
            rw [Pm.ask_yes hin]
            clear hin
            refine anyC_take (i := 6) (v := ?v6_163) (a' := ?a6_163) rfl (by kernel_rfl) (by kernel_rfl) (by kernel_rfl) (fun _ _ _ h => h) hC ?w6_163 ?y6_163 ?f6_163 ?r6_163
            case w6_163 => kernel_rfl
            case y6_163 => (intro w hC; go_simp; try with_reducible rfl)
            case f6_163 => (go_simp; try with_reducible rfl)
            refine anyC_take (i := 7) (v := ?v7_164) (a' := ?a7_164) rfl (by kernel_rfl) (by kernel_rfl) (by kernel_rfl) (fun _ _ _ h => h) hC ?w7_164 ?y7_164 ?f7_164 ?r7_164
            case w7_164 => kernel_rfl
            case y7_164 => (intro w hC; go_simp; try with_reducible rfl)
            case f7_164 => (go_simp; try with_reducible rfl)
            by_cases h0 : j = 0
            · subst h0
              have HS2 : Hid (∀ i, i + 1 < 0 + 1 → x.ch.getD i 0 ≤ x.ch.getD (i + 1) 0) := fun i hi => by omega
              refine anyC_take (i := 8) (v := ?v8_165) (a' := ?a8_165) rfl (by kernel_rfl) (by kernel_rfl) (by kernel_rfl) (fun _ _ _ h => h) hC ?w8_165 ?y8_165 ?f8_165 ?r8_165
              case w8_165 => kernel_rfl
              case y8_165 => (intro w hC; go_simp; try with_reducible rfl)
              case f8_165 => (go_simp; try with_reducible rfl)
              refine anyC_take (i := 9) (v := ?v9_166) (a' := ?a9_166) rfl (by kernel_rfl) (by kernel_rfl) (by kernel_rfl) (fun _ _ _ h => h) hC ?w9_166 ?y9_166 ?f9_166 ?r9_166
              case w9_166 => kernel_rfl
              case y9_166 => (intro w hC; go_simp; try with_reducible rfl)
              case f9_166 => (go_simp; try with_reducible rfl)
              refine anyC_take (i := 10) (v := ?v10_167) (a' := ?a10_167) rfl (by kernel_rfl) (by kernel_rfl) (by kernel_rfl) (fun _ _ _ h => h) hC ?w10_167 ?y10_167 ?f10_167 ?r10_167
              case w10_167 => kernel_rfl
              case y10_167 => (intro w hC; go_simp; try with_reducible rfl)
              case f10_167 => (go_simp; try with_reducible rfl)
              refine anyC_skip (i := 11) (a' := ?a11_168) rfl (by kernel_rfl) (by kernel_rfl) (by kernel_rfl) (fun _ _ _ h => h) hC (by kernel_rfl) ?f11_168 ?r11_168
              case f11_168 => (go_simp; try with_reducible rfl)
              refine anyC_skip (i := 12) (a' := ?a12_169) rfl (by kernel_rfl) (by kernel_rfl) (by kernel_rfl) (fun _ _ _ h => h) hC (by kernel_rfl) ?f12_169 ?r12_169
              case f12_169 => (go_simp; try with_reducible rfl)
              refine anyC_skip (i := 13) (a' := ?a13_170) rfl (by kernel_rfl) (by kernel_rfl) (by kernel_rfl) (fun _ _ _ h => h) hC (by kernel_rfl) ?f13_170 ?r13_170
              case f13_170 => (go_simp; try with_reducible rfl)
              refine anyC_skip (i := 14) (a' := ?a14_171) rfl (by kernel_rfl) (by kernel_rfl) (by kernel_rfl) (fun _ _ _ h => h) hC (by kernel_rfl) ?f14_171 ?r14_171
              case f14_171 => (go_simp; try with_reducible rfl)
              refine anyC_skip (i := 15) (a' := ?a15_172) rfl (by kernel_rfl) (by kernel_rfl) (by kernel_rfl) (fun _ _ _ h => h) hC (by kernel_rfl) ?f15_172 ?r15_172
              case f15_172 => (go_simp; try with_reducible rfl)
              refine anyC_skip (i := 16) (a' := ?a16_173) rfl (by kernel_rfl) (by kernel_rfl) (by kernel_rfl) (fun _ _ _ h => h) hC (by kernel_rfl) ?f16_173 ?r16_173
              case f16_173 => (go_simp; try with_reducible rfl)
              refine anyC_skip (i := 17) (a' := ?a17_174) rfl (by kernel_rfl) (by kernel_rfl) (by kernel_rfl) (fun _ _ _ h => h) hC (by kernel_rfl) ?f17_174 ?r17_174
              case f17_174 => (go_simp; try with_reducible rfl)
              refine anyC_skip (i := 18) (a' := ?a18_175) rfl (by kernel_rfl) (by kernel_rfl) (by kernel_rfl) (fun _ _ _ h => h) hC (by kernel_rfl) ?f18_175 ?r18_175
              case f18_175 => (go_simp; try with_reducible rfl)
              refine anyC_skip (i := 19) (a' := ?a19_176) rfl (by kernel_rfl) (by kernel_rfl) (by kernel_rfl) (fun _ _ _ h => h) hC (by kernel_rfl) ?f19_176 ?r19_176
              case f19_176 => (go_simp; try with_reducible rfl)
              refine anyC_skip (i := 20) (a' := ?a20_177) rfl (by kernel_rfl) (by kernel_rfl) (by kernel_rfl) (fun _ _ _ h => h) hC (by kernel_rfl) ?f20_177 ?r20_177
              case f20_177 => (go_simp; try with_reducible rfl)
              refine anyC_skip (i := 21) (a' := ?a21_178) rfl (by kernel_rfl) (by kernel_rfl) (by kernel_rfl) (fun _ _ _ h => h) hC (by kernel_rfl) ?f21_178 ?r21_178
              case f21_178 => (go_simp; try with_reducible rfl)
              refine anyC_skip (i := 22) (a' := ?a22_179) rfl (by kernel_rfl) (by kernel_rfl) (by kernel_rfl) (fun _ _ _ h => h) hC (by kernel_rfl) ?f22_179 ?r22_179
              case f22_179 => (go_simp; try with_reducible rfl)
              refine anyC_take (i := 23) (v := ?v23_180) (a' := ?a23_180) rfl (by kernel_rfl) (by kernel_rfl) (by kernel_rfl) (fun _ _ _ h => h) hC ?w23_180 ?y23_180 ?f23_180 ?r23_180
              case w23_180 => kernel_rfl
              case y23_180 => (intro w hC; go_simp; try with_reducible rfl)
              case f23_180 => (go_simp; try with_reducible rfl)
              refine anyC_take (i := 24) (v := ?v24_181) (a' := ?a24_181) rfl (by kernel_rfl) (by kernel_rfl) (by kernel_rfl) (fun _ _ _ h => h) hC ?w24_181 ?y24_181 ?f24_181 ?r24_181
              case w24_181 => kernel_rfl
              case y24_181 => (intro w hC; go_simp; try with_reducible rfl)
              case f24_181 => (go_simp; try with_reducible rfl)
              refine anyC_done (by kernel_rfl) ?_
              go_wp2
              go_roundw
              case rel => exact ⟨0 + 1, by go_num, by omega, HS1, HS2, Lib.hid hBx.out.drew⟩
              case measure => simp [intOf]; omega
            · obtain ⟨i, hi⟩ : ∃ i, j = i + 1 := ⟨j - 1, by omega⟩
              have hj0 : decide ((0 : Int) < (j : Int)) = true := by simp; omega
              have hj1 : decide (0 < j) = true := by simp; omega
              have hj2 : 0 < j := by omega
              obtain ⟨z, hzk⟩ : ∃ z, x.ch[i]? = some z := ⟨x.ch[i]'(by have := HL2.out; omega), List.getElem?_eq_getElem (by have := HL2.out; omega)⟩
              obtain ⟨ad3, e3, _, hc3⟩ := HXR.out.getU hzk
              obtain rfl : ad2 = ad3 := by injection e3
              have FZ : Hid (∀ W, Below wr.heap.size wr W → W.cell? (ad2.add i) = some (.int .i64 z)) := fun W h => by
                rw [h.cell (by rw [addr_add_block]; exact hadz)]; exact hc3
              have hin : (i : Int) < (n' : Int) := by omega
              have hi1 : (j : Int) - 1 = (i : Int) := by omega
              have hi3 : IntKind.i64.wrap (i : Int) = (i : Int) := wrap_id (by omega) (by omega)
              have hi2 : IntKind.i64.wrap ((j : Int) - 1) = (i : Int) := by rw [hi1]; exact wrap_id (by omega) (by omega)
              have hle : Hid ((Pm.Sd x.ch → z ≤ y) ∧ (z ≤ y → ∀ a, a + 1 < j + 1 → x.ch.getD a 0 ≤ x.ch.getD (a + 1) 0)) := by
                have hy1 := HYK.out
                rw [hi] at hy1
                have hil : i + 1 < x.ch.length := (List.getElem?_eq_some_iff.1 hy1).1
                refine ⟨fun h => ?_, fun h a ha => ?_⟩
                · have := h i hil
                  rw [List.getD_eq_getElem?_getD, List.getD_eq_getElem?_getD, hzk, hy1] at this
                  exact this
                · by_cases e : a = i
                  · subst e
                    rw [List.getD_eq_getElem?_getD, List.getD_eq_getElem?_getD, hzk, hy1]
                    exact h
                  · exact hS.out a (by omega)
              clear hc3 hzk e3 h0 hi
              refine anyC_take (i := 8) (v := ?v8_182) (a' := ?a8_182) rfl (by kernel_rfl) (by kernel_rfl) (by kernel_rfl) (fun _ _ _ h => h) hC ?w8_182 ?y8_182 ?f8_182 ?r8_182
              case w8_182 => kernel_rfl
              case y8_182 => (intro w hC; go_simp; try with_reducible rfl)
              case f8_182 => (go_simp; try with_reducible rfl)
              refine anyC_take (i := 9) (v := ?v9_183) (a' := ?a9_183) rfl (by kernel_rfl) (by kernel_rfl) (by kernel_rfl) (fun _ _ _ h => h) hC ?w9_183 ?y9_183 ?f9_183 ?r9_183
              case w9_183 => kernel_rfl
              case y9_183 => (intro w hC; go_simp; try with_reducible rfl)
              case f9_183 => (go_simp; try with_reducible rfl)
              refine anyC_take (i := 10) (v := ?v10_184) (a' := ?a10_184) rfl (by kernel_rfl) (by kernel_rfl) (by kernel_rfl) (fun _ _ _ h => h) hC ?w10_184 ?y10_184 ?f10_184 ?r10_184
              case w10_184 => kernel_rfl
              case y10_184 => (intro w hC; go_simp; try with_reducible rfl)
              case f10_184 => (go_simp; try with_reducible rfl)
              refine anyC_take (i := 11) (v := ?v11_185) (a' := ?a11_185) rfl (by kernel_rfl) (by kernel_rfl) (by kernel_rfl) (fun _ _ _ h => h) hC ?w11_185 ?y11_185 ?f11_185 ?r11_185
              case w11_185 => kernel_rfl
              case y11_185 => (intro w hC; go_simp; try with_reducible rfl)
              case f11_185 => (go_simp; try with_reducible rfl)
              refine anyC_take (i := 13) (v := ?v13_186) (a' := ?a13_186) rfl (by kernel_rfl) (by kernel_rfl) (by kernel_rfl) (fun _ _ _ h => h) hC ?w13_186 ?y13_186 ?f13_186 ?r13_186
              case w13_186 => kernel_rfl
              case y13_186 => (intro w hC; go_simp; try with_reducible rfl)
              case f13_186 => (go_simp; try with_reducible rfl)
              refine anyC_take (i := 17) (v := ?v17_187) (a' := ?a17_187) rfl (by kernel_rfl) (by kernel_rfl) (by kernel_rfl) (fun _ _ _ h => h) hC ?w17_187 ?y17_187 ?f17_187 ?r17_187
              case w17_187 => kernel_rfl
              case y17_187 => (intro w hC; go_simp; try with_reducible rfl)
              case f17_187 => (go_simp; try with_reducible rfl)
              refine anyC_take (i := 19) (v := ?v19_188) (a' := ?a19_188) rfl (by kernel_rfl) (by kernel_rfl) (by kernel_rfl) (fun _ _ _ h => h) hC ?w19_188 ?y19_188 ?f19_188 ?r19_188
              case w19_188 => kernel_rfl
              case y19_188 => (intro w hC; go_simp; try with_reducible rfl)
              case f19_188 => (go_simp; try with_reducible rfl)
              refine anyC_take (i := 12) (v := ?v12_189) (a' := ?a12_189) rfl (by kernel_rfl) (by kernel_rfl) (by kernel_rfl) (fun _ _ _ h => h) hC ?w12_189 ?y12_189 ?f12_189 ?r12_189
              case w12_189 => kernel_rfl
              case y12_189 => (intro w hC; have h4 := F11.out w hC; go_simp; try with_reducible rfl)
              case f12_189 => (go_simp; try with_reducible rfl)
              refine anyC_take (i := 18) (v := ?v18_190) (a' := ?a18_190) rfl (by kernel_rfl) (by kernel_rfl) (by kernel_rfl) (fun _ _ _ h => h) hC ?w18_190 ?y18_190 ?f18_190 ?r18_190
              case w18_190 => kernel_rfl
              case y18_190 => (intro w hC; have h4 := F11.out w hC; go_simp; try with_reducible rfl)
              case f18_190 => (go_simp; try with_reducible rfl)
              refine anyC_take (i := 14) (v := ?v14_191) (a' := ?a14_191) rfl (by kernel_rfl) (by kernel_rfl) (by kernel_rfl) (fun _ _ _ h => h) hC ?w14_191 ?y14_191 ?f14_191 ?r14_191
              case w14_191 => kernel_rfl
              case y14_191 => (intro w hC; go_simp; try with_reducible rfl)
              case f14_191 => (go_simp; try with_reducible rfl)
              refine anyC_take (i := 15) (v := ?v15_192) (a' := ?a15_192) rfl (by kernel_rfl) (by kernel_rfl) (by kernel_rfl) (fun _ _ _ h => h) hC ?w15_192 ?y15_192 ?f15_192 ?r15_192
              case w15_192 => kernel_rfl
              case y15_192 => (intro w hC; go_simp; try with_reducible rfl)
              case f15_192 => (go_simp; try with_reducible rfl)
              refine anyC_take (i := 16) (v := ?v16_193) (a' := ?a16_193) rfl (by kernel_rfl) (by kernel_rfl) (by kernel_rfl) (fun _ _ _ h => h) hC ?w16_193 ?y16_193 ?f16_193 ?r16_193
              case w16_193 => kernel_rfl
              case y16_193 => (intro w hC; have h4 := FZ.out w hC; go_simp; try with_reducible rfl)
              case f16_193 => (go_simp; try with_reducible rfl)
              refine anyC_take (i := 20) (v := ?v20_194) (a' := ?a20_194) rfl (by kernel_rfl) (by kernel_rfl) (by kernel_rfl) (fun _ _ _ h => h) hC ?w20_194 ?y20_194 ?f20_194 ?r20_194
              case w20_194 => kernel_rfl
              case y20_194 => (intro w hC; go_simp; try with_reducible rfl)
              case f20_194 => (go_simp; try with_reducible rfl)
              refine anyC_take (i := 21) (v := ?v21_195) (a' := ?a21_195) rfl (by kernel_rfl) (by kernel_rfl) (by kernel_rfl) (fun _ _ _ h => h) hC ?w21_195 ?y21_195 ?f21_195 ?r21_195
              case w21_195 => kernel_rfl
              case y21_195 => (intro w hC; have h4 := FY.out w hC; go_simp; try with_reducible rfl)
              case f21_195 => (go_simp; try with_reducible rfl)
              by_cases hzy : y < z
              · have hd : decide (y < z) = true := by simpa using hzy
                have HE : Hid (x.right = false) := HRT.out.trans (Pm.ask_no (fun h => by have := hle.out.1 h.2.2; omega))
                clear hle hzy
                refine anyC_take (i := 22) (v := ?v22_196) (a' := ?a22_196) rfl (by kernel_rfl) (by kernel_rfl) (by kernel_rfl) (fun _ _ _ h => h) hC ?w22_196 ?y22_196 ?f22_196 ?r22_196
                case w22_196 => kernel_rfl
                case y22_196 => (intro w hC; go_simp; try with_reducible rfl)
                case f22_196 => (go_simp; try with_reducible rfl)
                refine anyC_take (i := 23) (v := ?v23_197) (a' := ?a23_197) rfl (by kernel_rfl) (by kernel_rfl) (by kernel_rfl) (fun _ _ _ h => h) hC ?w23_197 ?y23_197 ?f23_197 ?r23_197
                case w23_197 => kernel_rfl
                case y23_197 => (intro w hC; go_simp; try with_reducible rfl)
                case f23_197 => (go_simp; try with_reducible rfl)
                refine anyC_take (i := 24) (v := ?v24_198) (a' := ?a24_198) rfl (by kernel_rfl) (by kernel_rfl) (by kernel_rfl) (fun _ _ _ h => h) hC ?w24_198 ?y24_198 ?f24_198 ?r24_198
                case w24_198 => kernel_rfl
                case y24_198 => (intro w hC; go_simp; try with_reducible rfl)
                case f24_198 => (go_simp; try with_reducible rfl)
                refine anyC_done (by kernel_rfl) ?_
                go_wp2
                go_ret
                exact ⟨ret_bool HE.out.symm, hEND.out⟩
              · have hd : decide (y < z) = false := by simpa using hzy
                have HS2 := Lib.hid (hle.out.2 (by omega))
                clear hle hzy
                refine anyC_take (i := 22) (v := ?v22_199) (a' := ?a22_199) rfl (by kernel_rfl) (by kernel_rfl) (by kernel_rfl) (fun _ _ _ h => h) hC ?w22_199 ?y22_199 ?f22_199 ?r22_199
                case w22_199 => kernel_rfl
                case y22_199 => (intro w hC; go_simp; try with_reducible rfl)
                case f22_199 => (go_simp; try with_reducible rfl)
                refine anyC_take (i := 23) (v := ?v23_200) (a' := ?a23_200) rfl (by kernel_rfl) (by kernel_rfl) (by kernel_rfl) (fun _ _ _ h => h) hC ?w23_200 ?y23_200 ?f23_200 ?r23_200
                case w23_200 => kernel_rfl
                case y23_200 => (intro w hC; go_simp; try with_reducible rfl)
                case f23_200 => (go_simp; try with_reducible rfl)
                refine anyC_take (i := 24) (v := ?v24_201) (a' := ?a24_201) rfl (by kernel_rfl) (by kernel_rfl) (by kernel_rfl) (fun _ _ _ h => h) hC ?w24_201 ?y24_201 ?f24_201 ?r24_201
                case w24_201 => kernel_rfl
                case y24_201 => (intro w hC; go_simp; try with_reducible rfl)
                case f24_201 => (go_simp; try with_reducible rfl)
                refine anyC_done (by kernel_rfl) ?_
                go_wp2
                go_roundw
                case rel => exact ⟨j + 1, by go_num, by omega, HS1, HS2, Lib.hid hBx.out.drew⟩
                case measure => simp [intOf]; omega
          · have HE : Hid (x.right = false) := HRT.out.trans (Pm.ask_no (fun h => hin (h.2.1.2 y (List.mem_of_getElem? HYK.out))))
            rw [Pm.ask_no hin]
            clear hin
            refine anyC_take (i := 6) (v := ?v6_202) (a' := ?a6_202) rfl (by kernel_rfl) (by kernel_rfl) (by kernel_rfl) (fun _ _ _ h => h) hC ?w6_202 ?y6_202 ?f6_202 ?r6_202
            case w6_202 => kernel_rfl
            case y6_202 => (intro w hC; go_simp; try with_reducible rfl)
            case f6_202 => (go_simp; try with_reducible rfl)
            refine anyC_take (i := 7) (v := ?v7_203) (a' := ?a7_203) rfl (by kernel_rfl) (by kernel_rfl) (by kernel_rfl) (fun _ _ _ h => h) hC ?w7_203 ?y7_203 ?f7_203 ?r7_203
            case w7_203 => kernel_rfl
            case y7_203 => (intro w hC; go_simp; try with_reducible rfl)
            case f7_203 => (go_simp; try with_reducible rfl)
            refine anyC_skip (i := 8) (a' := ?a8_204) rfl (by kernel_rfl) (by kernel_rfl) (by kernel_rfl) (fun _ _ _ h => h) hC (by kernel_rfl) ?f8_204 ?r8_204
            case f8_204 => (go_simp; try with_reducible rfl)
            refine anyC_skip (i := 9) (a' := ?a9_205) rfl (by kernel_rfl) (by kernel_rfl) (by kernel_rfl) (fun _ _ _ h => h) hC (by kernel_rfl) ?f9_205 ?r9_205
            case f9_205 => (go_simp; try with_reducible rfl)
            refine anyC_skip (i := 10) (a' := ?a10_206) rfl (by kernel_rfl) (by kernel_rfl) (by kernel_rfl) (fun _ _ _ h => h) hC (by kernel_rfl) ?f10_206 ?r10_206
            case f10_206 => (go_simp; try with_reducible rfl)
            refine anyC_skip (i := 11) (a' := ?a11_207) rfl (by kernel_rfl) (by kernel_rfl) (by kernel_rfl) (fun _ _ _ h => h) hC (by kernel_rfl) ?f11_207 ?r11_207
            case f11_207 => (go_simp; try with_reducible rfl)
            refine anyC_skip (i := 12) (a' := ?a12_208) rfl (by kernel_rfl) (by kernel_rfl) (by kernel_rfl) (fun _ _ _ h => h) hC (by kernel_rfl) ?f12_208 ?r12_208
            case f12_208 => (go_simp; try with_reducible rfl)
            refine anyC_skip (i := 13) (a' := ?a13_209) rfl (by kernel_rfl) (by kernel_rfl) (by kernel_rfl) (fun _ _ _ h => h) hC (by kernel_rfl) ?f13_209 ?r13_209
            case f13_209 => (go_simp; try with_reducible rfl)
            refine anyC_skip (i := 14) (a' := ?a14_210) rfl (by kernel_rfl) (by kernel_rfl) (by kernel_rfl) (fun _ _ _ h => h) hC (by kernel_rfl) ?f14_210 ?r14_210
            case f14_210 => (go_simp; try with_reducible rfl)
            refine anyC_skip (i := 15) (a' := ?a15_211) rfl (by kernel_rfl) (by kernel_rfl) (by kernel_rfl) (fun _ _ _ h => h) hC (by kernel_rfl) ?f15_211 ?r15_211
            case f15_211 => (go_simp; try with_reducible rfl)
            refine anyC_skip (i := 16) (a' := ?a16_212) rfl (by kernel_rfl) (by kernel_rfl) (by kernel_rfl) (fun _ _ _ h => h) hC (by kernel_rfl) ?f16_212 ?r16_212
            case f16_212 => (go_simp; try with_reducible rfl)
            refine anyC_skip (i := 17) (a' := ?a17_213) rfl (by kernel_rfl) (by kernel_rfl) (by kernel_rfl) (fun _ _ _ h => h) hC (by kernel_rfl) ?f17_213 ?r17_213
            case f17_213 => (go_simp; try with_reducible rfl)
            refine anyC_skip (i := 18) (a' := ?a18_214) rfl (by kernel_rfl) (by kernel_rfl) (by kernel_rfl) (fun _ _ _ h => h) hC (by kernel_rfl) ?f18_214 ?r18_214
            case f18_214 => (go_simp; try with_reducible rfl)
            refine anyC_skip (i := 19) (a' := ?a19_215) rfl (by kernel_rfl) (by kernel_rfl) (by kernel_rfl) (fun _ _ _ h => h) hC (by kernel_rfl) ?f19_215 ?r19_215
            case f19_215 => (go_simp; try with_reducible rfl)
            refine anyC_skip (i := 20) (a' := ?a20_216) rfl (by kernel_rfl) (by kernel_rfl) (by kernel_rfl) (fun _ _ _ h => h) hC (by kernel_rfl) ?f20_216 ?r20_216
            case f20_216 => (go_simp; try with_reducible rfl)
            refine anyC_skip (i := 21) (a' := ?a21_217) rfl (by kernel_rfl) (by kernel_rfl) (by kernel_rfl) (fun _ _ _ h => h) hC (by kernel_rfl) ?f21_217 ?r21_217
            case f21_217 => (go_simp; try with_reducible rfl)
            refine anyC_skip (i := 22) (a' := ?a22_218) rfl (by kernel_rfl) (by kernel_rfl) (by kernel_rfl) (fun _ _ _ h => h) hC (by kernel_rfl) ?f22_218 ?r22_218
            case f22_218 => (go_simp; try with_reducible rfl)
            refine anyC_skip (i := 23) (a' := ?a23_219) rfl (by kernel_rfl) (by kernel_rfl) (by kernel_rfl) (fun _ _ _ h => h) hC (by kernel_rfl) ?f23_219 ?r23_219
            case f23_219 => (go_simp; try with_reducible rfl)
            refine anyC_take (i := 24) (v := ?v24_220) (a' := ?a24_220) rfl (by kernel_rfl) (by kernel_rfl) (by kernel_rfl) (fun _ _ _ h => h) hC ?w24_220 ?y24_220 ?f24_220 ?r24_220
            case w24_220 => kernel_rfl
            case y24_220 => (intro w hC; go_simp; try with_reducible rfl)
            case f24_220 => (go_simp; try with_reducible rfl)
            refine anyC_done (by kernel_rfl) ?_
            go_wp2
            go_ret
            exact ⟨ret_bool HE.out.symm, hEND.out⟩
        · obtain rfl : j = n' := by omega
          have HE : Hid (x.right = true) := by
            refine HRT.out.trans (Pm.ask_yes ⟨HB1.out, ⟨by rw [HL2.out]; omega, ?_⟩, fun i hi => hS.out i (by rw [HL2.out] at hi; exact hi)⟩)
            have h := hT.out
            rw [List.take_of_length_le (by rw [HL2.out]; exact Nat.le_refl _)] at h
            exact h
          have hEND := Lib.hid (HBW.out.trans (hBx.out.mono HBW.out.size))
          clear hT hS
          go_wp2
          go_ret
          exact ⟨ret_bool HE.out.symm, hEND.out⟩
end Go.Proofs.YtdcdlnmgbgeeeaaDoor
