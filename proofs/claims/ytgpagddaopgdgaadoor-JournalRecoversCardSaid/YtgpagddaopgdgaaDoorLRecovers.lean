/- JournalRecovers, walked. -/
import Derived.Test.YtgpagddaopgdgaaDoorJv
import Derived.Deep.CutBlock
import Derived.Deep.DeepCutAuto
import Derived.WalkSpells
namespace Go.Proofs.YtgpagddaopgdgaaDoor
open Go.RowKit Go.Shelf Km

/-- what a law's argument of slices of bytes gives -/
def SlicesOf (w : World) (a : Option Addr) (len cap : Nat) : Prop :=
  ∃ vs bs, vs.length = len ∧ len ≤ cap ∧ cap ≤ maxLen ∧ Rd w w.heap.size a vs ∧ Bods w w.heap.size vs bs ∧ ∀ b ∈ bs, Fm.By b

theorem info_int : (Tryd.prog.info? 3).map (fun i => (i.zero, i.size, i.bytes)) = some (some (.int .i64 0), 1, 8) := by kernel_rfl
theorem info_parts_int : ∃ i, Tryd.prog.info? 3 = some i ∧ i.zero = some (.int .i64 0) ∧ i.size = 1 ∧ i.bytes = 8 := by
  have h := info_int
  cases hi : Tryd.prog.info? 3 with
  | none => rw [hi] at h; cases h
  | some i => rw [hi] at h; simp only [Option.map_some, Option.some.injEq, Prod.mk.injEq] at h; exact ⟨i, rfl, h.1, h.2.1, h.2.2⟩

set_option maxRecDepth 100000 in
set_option maxHeartbeats 8000000 in
theorem recovers_walk (a0 : Option Addr) (len0 cap0 : Nat) (z0 : List Int) (a1 : Option Addr) (len1 cap1 : Nat) (a2 a3 : Int) (w : World) (w0 : RowOf .u8 w a0 len0 cap0 z0) (w1 : SlicesOf w a1 len1 cap1) (w2 : (Lit.int .u8 a2).wf = true) (w3 : (Lit.int .i64 a3).wf = true) (t0 : TabAt w) :
    Calls Tryd.prog 4 #[.slice a0 len0 cap0, .slice a1 len1 cap1, .int .u8 a2, .int .i64 a3] w fun e w' => e = .returned (.bool true) ∧ Below w.heap.size w w' := by
  have b2 : 0 ≤ a2 ∧ a2 ≤ 255 := by simpa [Lit.wf, IntKind.min, IntKind.max, IntKind.signed, IntKind.bits] using w2
  have b3 := wf_i64 w3
  obtain ⟨ks, hn0, hc0, hm0, hr0, hw0⟩ := row_rd w0
  obtain ⟨vs, bs, hn1, hc1, hm1, hr1, hbd, hby⟩ := w1
  have HB0 : Hid (Fm.By ks) := wf_u8 hw0
  have HB1 := Lib.hid hby
  have HR0 := Lib.hid hr0
  have HR1 := Lib.hid hr1
  have HBD := Lib.hid hbd
  have HN0 := Lib.hid hn0
  have HN1 := Lib.hid hn1
  have HNB : Hid (bs.length = len1) := by show _ = _; rw [← hbd.1]; exact hn1
  have HT := Lib.hid t0.tab
  unfold maxLen at hm0 hm1
  obtain ⟨ps, hps⟩ : ∃ ps, ps = ks.zip bs := ⟨_, rfl⟩
  obtain ⟨n, hnn⟩ : ∃ n, n = min len0 len1 := ⟨_, rfl⟩
  have HPN : Hid (ps.length = n) := by show _ = _; rw [hps, List.length_zip, hn0, hnn, HNB.out]
  have HPS := Lib.hid hps
  have hnl0 : n ≤ len0 := by omega
  have hnl1 : n ≤ len1 := by omega
  have HNN := Lib.hid hnn
  clear w0 w2 w3 hw0 hr0 hr1 hbd hby hn0 hn1 t0 hps hnn
  go_enter Tryd.func4, Tryd.ntmps4
  go_wp2_with (go_at_call 8; refine (head_any _ HT.out).mono ?_; rintro e w1 ⟨rfl, hb1⟩)
  refine (new_own w w1 hb1).mono ?_
  rintro e w2 ⟨rfl, j2⟩
  clear hb1
  generalize w1.heap.size = g at *
  have HR := Lib.hid (Rec.own j2)
  clear j2
  go_upto_region 3 with fail
  go_cut [11] from 31 to 35 (fun nv wx => nv = .int .i64 (n : Int) ∧ wx = w2)
  case first =>
    go_wp2_with fail
    all_goals go_meet
    all_goals exact ⟨congrArg (Value.int IntKind.i64) (by have := HNN.out; omega), rfl⟩
  case rest =>
    obtain ⟨rfl, rfl⟩ := hcut
    by_cases h40 : 40 < n
    · go_wp2
      go_ret
      exact ⟨rfl, HR.out.bel⟩
    go_upto_region 10 with fail
    obtain ⟨av, hav⟩ : ∃ av : Int, av = a2 % ((n : Int) + 1) := ⟨_, rfl⟩
    have hav0 : 0 ≤ av ∧ av ≤ (n : Int) := by rw [hav]; exact ⟨Int.emod_nonneg _ (by omega), by have := Int.emod_lt_of_pos a2 (b := (n : Int) + 1) (by omega); omega⟩
    rw [← hav]
    clear hav
    obtain ⟨a, rfl⟩ := Int.eq_ofNat_of_zero_le hav0.1
    have han : a ≤ n := by omega
    clear hav0
    go_wp2_with fail
    go_loopg [13, 14, 15, 16] n (fun gh vt va ve ix wr => ∃ (i : Nat), gh + i = n ∧ ix = .int .i64 (i : Int) ∧ Hid (∀ f ∈ ps.take i, f.2.length ≤ 8192) ∧ Hid (Rec (fun _ => False) w wr g (Rm.st ps a i) vt va ve (Rm.T ps a i) (Rm.L ps a i) (Rm.E ps a i)))
    case atStart => exact ⟨0, by omega, rfl, Lib.hid (fun f hf => by simp at hf), Lib.hid (by rw [Rm.st_zero, Rm.T_lo (Nat.zero_le _), Rm.E_lo (Nat.zero_le _), show Rm.L ps a 0 = [] by unfold Rm.L; rw [Nat.zero_min]; rfl]; exact HR.out)⟩
    case round =>
      obtain ⟨i, hi, rfl, HLE, HX⟩ := hrel
      by_cases hlt : i < n
      · have hip : i < ps.length := by rw [HPN.out]; exact hlt
        obtain ⟨⟨kd, b⟩, hpi⟩ : ∃ p, ps[i]? = some p := ⟨ps[i], List.getElem?_eq_getElem hip⟩
        have hzz := hpi
        rw [HPS.out, List.getElem?_zip_eq_some] at hzz
        obtain ⟨hkd, hbk⟩ := hzz
        dsimp only at hkd hbk
        obtain ⟨v, hvk⟩ : ∃ x, vs[i]? = some x := ⟨vs[i]'(by rw [HN1.out]; omega), List.getElem?_eq_getElem _⟩
        obtain ⟨ad0, rfl, hab0, hcl0⟩ := HR0.out.getU hkd
        obtain ⟨ad1, rfl, hab1, hcl1⟩ := HR1.out i v hvk
        obtain ⟨Ab, cb, rfl, hlb, hmb, hrb⟩ := HBD.out.2 i v b hvk hbk
        have HK0 := Lib.hid (fun (W : World) (q : Below w.heap.size w W) => (q.cell (p := ad0.add i) (by rw [addr_add_block]; exact hab0)).trans hcl0)
        have HK1 := Lib.hid (fun (W : World) (q : Below w.heap.size w W) => (q.cell (p := ad1.add i) (by rw [addr_add_block]; exact hab1)).trans hcl1)
        have HRB := Lib.hid hrb
        have HBB := Lib.hid (HB1.out b (List.mem_of_getElem? hbk))
        have hkk : 0 ≤ kd ∧ kd ≤ 255 := HB0.out kd (List.mem_of_getElem? hkd)
        have HPI := Lib.hid hpi
        have n1 : (i : Int) < (n : Int) := by omega
        have n2 : (i : Int) < (len0 : Int) := by omega
        have n3 : (i : Int) < (len1 : Int) := by omega
        clear hkd hbk hvk hcl0 hcl1 hab0 hab1 hrb hpi hip
        by_cases hia : i < a
        · skip
          have hz : Jm.size (Rm.st ps a i) ≤ 328000 := Nat.le_trans (Rm.size_st HLE.out) (by omega)
          have HAP := Lib.hid (fun (W : World) (q : Below wr.heap.size wr W) => append_c (HX.out.below0 q) HT.out kd Ab b.length cb w.heap.size b hkk (HRB.out.below (HX.out.bel.trans (q.mono HX.out.bel.size))) rfl hlb hmb (Nat.le_trans HX.out.bel.size q.size) HBB.out (by omega))
          have HCX := Lib.hid (fun (W : World) (q : Below wr.heap.size wr W) => HX.out.bel.trans (q.mono HX.out.bel.size))
          by_cases hmy : 8192 < b.length
          · rw [Jm.append_many hmy] at HAP
            dsimp only at HAP
            go_wp2_with fail
            refine region_F (fun W => Below wr.heap.size wr W) (fun j => j == 9) (by kernel_rfl) ?_
            have hC : Below wr.heap.size wr wr.drew := (Below.refl _ _).drew
            refine anyP_take (i := 0) (v := ?v0_1) (a' := ?a0_1) rfl (by kernel_rfl) (by kernel_rfl) (by kernel_rfl) (fun _ _ _ h => h) (by first | exact .inl hC | exact .inr (by kernel_rfl)) (by kernel_rfl) ?w0_1 ?y0_1 ?f0_1 ?r0_1
            case w0_1 => kernel_rfl
            case y0_1 => (intro w hC; go_simp; try with_reducible rfl)
            case f0_1 => (go_simp; try with_reducible rfl)
            refine anyP_take (i := 1) (v := ?v1_2) (a' := ?a1_2) rfl (by kernel_rfl) (by kernel_rfl) (by kernel_rfl) (fun _ _ _ h => h) (by first | exact .inl hC | exact .inr (by kernel_rfl)) (by kernel_rfl) ?w1_2 ?y1_2 ?f1_2 ?r1_2
            case w1_2 => kernel_rfl
            case y1_2 => (intro w hC; go_simp; try with_reducible rfl)
            case f1_2 => (go_simp; try with_reducible rfl)
            refine anyP_take (i := 2) (v := ?v2_3) (a' := ?a2_3) rfl (by kernel_rfl) (by kernel_rfl) (by kernel_rfl) (fun _ _ _ h => h) (by first | exact .inl hC | exact .inr (by kernel_rfl)) (by kernel_rfl) ?w2_3 ?y2_3 ?f2_3 ?r2_3
            case w2_3 => kernel_rfl
            case y2_3 => (intro w hC; go_simp; try with_reducible rfl)
            case f2_3 => (go_simp; try with_reducible rfl)
            refine anyP_take (i := 3) (v := ?v3_4) (a' := ?a3_4) rfl (by kernel_rfl) (by kernel_rfl) (by kernel_rfl) (fun _ _ _ h => h) (by first | exact .inl hC | exact .inr (by kernel_rfl)) (by kernel_rfl) ?w3_4 ?y3_4 ?f3_4 ?r3_4
            case w3_4 => kernel_rfl
            case y3_4 => (intro w hC; go_simp; try with_reducible rfl)
            case f3_4 => (go_simp; try with_reducible rfl)
            refine anyP_take (i := 5) (v := ?v5_5) (a' := ?a5_5) rfl (by kernel_rfl) (by kernel_rfl) (by kernel_rfl) (fun _ _ _ h => h) (by first | exact .inl hC | exact .inr (by kernel_rfl)) (by kernel_rfl) ?w5_5 ?y5_5 ?f5_5 ?r5_5
            case w5_5 => kernel_rfl
            case y5_5 => (intro w hC; go_simp; try with_reducible rfl)
            case f5_5 => (go_simp; try with_reducible rfl)
            refine anyP_take (i := 6) (v := ?v6_6) (a' := ?a6_6) rfl (by kernel_rfl) (by kernel_rfl) (by kernel_rfl) (fun _ _ _ h => h) (by first | exact .inl hC | exact .inr (by kernel_rfl)) (by kernel_rfl) ?w6_6 ?y6_6 ?f6_6 ?r6_6
            case w6_6 => kernel_rfl
            case y6_6 => (intro w hC; go_simp; try with_reducible rfl)
            case f6_6 => (go_simp; try with_reducible rfl)
            refine anyP_take (i := 7) (v := ?v7_7) (a' := ?a7_7) rfl (by kernel_rfl) (by kernel_rfl) (by kernel_rfl) (fun _ _ _ h => h) (by first | exact .inl hC | exact .inr (by kernel_rfl)) (by kernel_rfl) ?w7_7 ?y7_7 ?f7_7 ?r7_7
            case w7_7 => kernel_rfl
            case y7_7 => (intro w hC; go_simp; try with_reducible rfl)
            case f7_7 => (go_simp; try with_reducible rfl)
            refine anyF_take (i := 4) (v := ?v4_8) (a' := ?a4_8) rfl (by kernel_rfl) (by kernel_rfl) (by kernel_rfl) (fun _ _ _ h => h) hC (by kernel_rfl) ?w4_8 ?y4_8 ?f4_8 ?r4_8
            case w4_8 => kernel_rfl
            case y4_8 => (intro w hC; have h4 := HK0.out w (HCX.out w hC); go_simp; try with_reducible rfl)
            case f4_8 => (go_simp; try with_reducible rfl)
            refine anyF_take (i := 8) (v := ?v8_9) (a' := ?a8_9) rfl (by kernel_rfl) (by kernel_rfl) (by kernel_rfl) (fun _ _ _ h => h) hC (by kernel_rfl) ?w8_9 ?y8_9 ?f8_9 ?r8_9
            case w8_9 => kernel_rfl
            case y8_9 => (intro w hC; have h4 := HK1.out w (HCX.out w hC); go_simp; try with_reducible rfl)
            case f8_9 => (go_simp; try with_reducible rfl)
            refine anyF_one (i := 9) rfl (by kernel_rfl) (by kernel_rfl) (fun K hK => ?_)
            go_simp
            refine (HAP.out _ hC).mono ?_
            rintro e w5 ⟨rfl, j5, -⟩
            refine hK _ _ ⟨.inr (by kernel_rfl), ?_⟩
            clear hK K
            refine anyP_take (i := 10) (v := ?v10_10) (a' := ?a10_10) rfl (by kernel_rfl) (by kernel_rfl) (by kernel_rfl) (fun _ _ _ h => h) (by first | exact .inl hC | exact .inr (by kernel_rfl)) (by kernel_rfl) ?w10_10 ?y10_10 ?f10_10 ?r10_10
            case w10_10 => kernel_rfl
            case y10_10 => (intro w hC; go_simp; try with_reducible rfl)
            case f10_10 => (go_simp; try with_reducible rfl)
            refine anyF_done (by kernel_rfl) ?_
            go_wp2
            go_ret
            exact ⟨rfl, j5.bel⟩
          have hmx : b.length ≤ 8192 := by omega
          rw [Rm.st_lo hmx hia HPI.out] at HAP
          dsimp only at HAP
          go_wp2_with fail
          refine region_F (fun W => Below wr.heap.size wr W) (fun j => j == 9) (by kernel_rfl) ?_
          have hC : Below wr.heap.size wr wr.drew := (Below.refl _ _).drew
          refine anyP_take (i := 0) (v := ?v0_11) (a' := ?a0_11) rfl (by kernel_rfl) (by kernel_rfl) (by kernel_rfl) (fun _ _ _ h => h) (by first | exact .inl hC | exact .inr (by kernel_rfl)) (by kernel_rfl) ?w0_11 ?y0_11 ?f0_11 ?r0_11
          case w0_11 => kernel_rfl
          case y0_11 => (intro w hC; go_simp; try with_reducible rfl)
          case f0_11 => (go_simp; try with_reducible rfl)
          refine anyP_take (i := 1) (v := ?v1_12) (a' := ?a1_12) rfl (by kernel_rfl) (by kernel_rfl) (by kernel_rfl) (fun _ _ _ h => h) (by first | exact .inl hC | exact .inr (by kernel_rfl)) (by kernel_rfl) ?w1_12 ?y1_12 ?f1_12 ?r1_12
          case w1_12 => kernel_rfl
          case y1_12 => (intro w hC; go_simp; try with_reducible rfl)
          case f1_12 => (go_simp; try with_reducible rfl)
          refine anyP_take (i := 2) (v := ?v2_13) (a' := ?a2_13) rfl (by kernel_rfl) (by kernel_rfl) (by kernel_rfl) (fun _ _ _ h => h) (by first | exact .inl hC | exact .inr (by kernel_rfl)) (by kernel_rfl) ?w2_13 ?y2_13 ?f2_13 ?r2_13
          case w2_13 => kernel_rfl
          case y2_13 => (intro w hC; go_simp; try with_reducible rfl)
          case f2_13 => (go_simp; try with_reducible rfl)
          refine anyP_take (i := 3) (v := ?v3_14) (a' := ?a3_14) rfl (by kernel_rfl) (by kernel_rfl) (by kernel_rfl) (fun _ _ _ h => h) (by first | exact .inl hC | exact .inr (by kernel_rfl)) (by kernel_rfl) ?w3_14 ?y3_14 ?f3_14 ?r3_14
          case w3_14 => kernel_rfl
          case y3_14 => (intro w hC; go_simp; try with_reducible rfl)
          case f3_14 => (go_simp; try with_reducible rfl)
          refine anyP_take (i := 5) (v := ?v5_15) (a' := ?a5_15) rfl (by kernel_rfl) (by kernel_rfl) (by kernel_rfl) (fun _ _ _ h => h) (by first | exact .inl hC | exact .inr (by kernel_rfl)) (by kernel_rfl) ?w5_15 ?y5_15 ?f5_15 ?r5_15
          case w5_15 => kernel_rfl
          case y5_15 => (intro w hC; go_simp; try with_reducible rfl)
          case f5_15 => (go_simp; try with_reducible rfl)
          refine anyP_take (i := 6) (v := ?v6_16) (a' := ?a6_16) rfl (by kernel_rfl) (by kernel_rfl) (by kernel_rfl) (fun _ _ _ h => h) (by first | exact .inl hC | exact .inr (by kernel_rfl)) (by kernel_rfl) ?w6_16 ?y6_16 ?f6_16 ?r6_16
          case w6_16 => kernel_rfl
          case y6_16 => (intro w hC; go_simp; try with_reducible rfl)
          case f6_16 => (go_simp; try with_reducible rfl)
          refine anyP_take (i := 7) (v := ?v7_17) (a' := ?a7_17) rfl (by kernel_rfl) (by kernel_rfl) (by kernel_rfl) (fun _ _ _ h => h) (by first | exact .inl hC | exact .inr (by kernel_rfl)) (by kernel_rfl) ?w7_17 ?y7_17 ?f7_17 ?r7_17
          case w7_17 => kernel_rfl
          case y7_17 => (intro w hC; go_simp; try with_reducible rfl)
          case f7_17 => (go_simp; try with_reducible rfl)
          refine anyF_take (i := 4) (v := ?v4_18) (a' := ?a4_18) rfl (by kernel_rfl) (by kernel_rfl) (by kernel_rfl) (fun _ _ _ h => h) hC (by kernel_rfl) ?w4_18 ?y4_18 ?f4_18 ?r4_18
          case w4_18 => kernel_rfl
          case y4_18 => (intro w hC; have h4 := HK0.out w (HCX.out w hC); go_simp; try with_reducible rfl)
          case f4_18 => (go_simp; try with_reducible rfl)
          refine anyF_take (i := 8) (v := ?v8_19) (a' := ?a8_19) rfl (by kernel_rfl) (by kernel_rfl) (by kernel_rfl) (fun _ _ _ h => h) hC (by kernel_rfl) ?w8_19 ?y8_19 ?f8_19 ?r8_19
          case w8_19 => kernel_rfl
          case y8_19 => (intro w hC; have h4 := HK1.out w (HCX.out w hC); go_simp; try with_reducible rfl)
          case f8_19 => (go_simp; try with_reducible rfl)
          refine anyF_one (i := 9) rfl (by kernel_rfl) (by kernel_rfl) (fun K hK => ?_)
          go_simp
          refine (HAP.out _ hC).mono ?_
          rintro e w5 ⟨rfl, j5, -⟩
          refine hK _ _ ⟨.inr (by kernel_rfl), ?_⟩
          clear hK K HAP HCX
          refine anyP_take (i := 10) (v := ?v10_20) (a' := ?a10_20) rfl (by kernel_rfl) (by kernel_rfl) (by kernel_rfl) (fun _ _ _ h => h) (by first | exact .inl hC | exact .inr (by kernel_rfl)) (by kernel_rfl) ?w10_20 ?y10_20 ?f10_20 ?r10_20
          case w10_20 => kernel_rfl
          case y10_20 => (intro w hC; go_simp; try with_reducible rfl)
          case f10_20 => (go_simp; try with_reducible rfl)
          refine anyF_done (by kernel_rfl) ?_
          have HFL : Hid ((Fm.frm kd b).length = b.length + 8) := Fm.frm_len _ _
          have HR5 := Lib.hid j5
          have HC5 := Lib.hid (fun (W : World) (q : Below w5.heap.size w5 W) => HR5.out.bel.trans (q.mono HR5.out.bel.size))
          have HPU := Lib.hid (fun (W : World) (q : Below w5.heap.size w5 W) => FRPut_any kd Ab b.length cb w.heap.size b W hkk (HRB.out.below (HC5.out W q)) rfl hlb hmb (Nat.le_trans HR5.out.bel.size q.size) HBB.out)
          rw [Fm.put_ok hmx] at HPU
          dsimp only at HPU
          clear j5
          go_wp2_with fail
          refine region_C (fun W => Below w5.heap.size w5 W) (by kernel_rfl) ?_
          have hC5 : Below w5.heap.size w5 w5.drew := (Below.refl _ _).drew
          refine anyC_take (i := 0) (v := ?v0_21) (a' := ?a0_21) rfl (by kernel_rfl) (by kernel_rfl) (by kernel_rfl) (fun _ _ _ h => h) hC5 ?w0_21 ?y0_21 ?f0_21 ?r0_21
          case w0_21 => kernel_rfl
          case y0_21 => (intro w hC; go_simp; try with_reducible rfl)
          case f0_21 => (go_simp; try with_reducible rfl)
          refine anyC_take (i := 1) (v := ?v1_22) (a' := ?a1_22) rfl (by kernel_rfl) (by kernel_rfl) (by kernel_rfl) (fun _ _ _ h => h) hC5 ?w1_22 ?y1_22 ?f1_22 ?r1_22
          case w1_22 => kernel_rfl
          case y1_22 => (intro w hC; go_simp; try with_reducible rfl)
          case f1_22 => (go_simp; try with_reducible rfl)
          refine anyC_take (i := 2) (v := ?v2_23) (a' := ?a2_23) rfl (by kernel_rfl) (by kernel_rfl) (by kernel_rfl) (fun _ _ _ h => h) hC5 ?w2_23 ?y2_23 ?f2_23 ?r2_23
          case w2_23 => kernel_rfl
          case y2_23 => (intro w hC; go_simp; try with_reducible rfl)
          case f2_23 => (go_simp; try with_reducible rfl)
          refine anyC_take (i := 4) (v := ?v4_24) (a' := ?a4_24) rfl (by kernel_rfl) (by kernel_rfl) (by kernel_rfl) (fun _ _ _ h => h) hC5 ?w4_24 ?y4_24 ?f4_24 ?r4_24
          case w4_24 => kernel_rfl
          case y4_24 => (intro w hC; go_simp; try with_reducible rfl)
          case f4_24 => (go_simp; try with_reducible rfl)
          refine anyC_take (i := 5) (v := ?v5_25) (a' := ?a5_25) rfl (by kernel_rfl) (by kernel_rfl) (by kernel_rfl) (fun _ _ _ h => h) hC5 ?w5_25 ?y5_25 ?f5_25 ?r5_25
          case w5_25 => kernel_rfl
          case y5_25 => (intro w hC; go_simp; try with_reducible rfl)
          case f5_25 => (go_simp; try with_reducible rfl)
          refine anyC_take (i := 6) (v := ?v6_26) (a' := ?a6_26) rfl (by kernel_rfl) (by kernel_rfl) (by kernel_rfl) (fun _ _ _ h => h) hC5 ?w6_26 ?y6_26 ?f6_26 ?r6_26
          case w6_26 => kernel_rfl
          case y6_26 => (intro w hC; go_simp; try with_reducible rfl)
          case f6_26 => (go_simp; try with_reducible rfl)
          refine anyC_take (i := 3) (v := ?v3_27) (a' := ?a3_27) rfl (by kernel_rfl) (by kernel_rfl) (by kernel_rfl) (fun _ _ _ h => h) hC5 ?w3_27 ?y3_27 ?f3_27 ?r3_27
          case w3_27 => kernel_rfl
          case y3_27 => (intro w hC; have h4 := HK0.out w (HC5.out w hC); go_simp; try with_reducible rfl)
          case f3_27 => (go_simp; try with_reducible rfl)
          refine anyC_take (i := 7) (v := ?v7_28) (a' := ?a7_28) rfl (by kernel_rfl) (by kernel_rfl) (by kernel_rfl) (fun _ _ _ h => h) hC5 ?w7_28 ?y7_28 ?f7_28 ?r7_28
          case w7_28 => kernel_rfl
          case y7_28 => (intro w hC; have h4 := HK1.out w (HC5.out w hC); go_simp; try with_reducible rfl)
          case f7_28 => (go_simp; try with_reducible rfl)
          refine anyC_one (i := 8) rfl (by kernel_rfl) (by kernel_rfl) (fun K hK => ?_)
          go_simp
          refine (HPU.out _ hC5).mono ?_
          rintro e w6 ⟨v6, rfl, hown6, hb6⟩
          obtain ⟨A6, c6, rfl, hc6, hm6, hr6⟩ := own_view hown6
          have hC6 : Below w5.heap.size w5 w6 := hC5.trans (hb6.mono (by exact Nat.le_refl _))
          refine hK _ _ ⟨hC6, ?_⟩
          clear hK K hown6 hb6 HPU
          refine anyC_take (i := 9) (v := ?v9_29) (a' := ?a9_29) rfl (by kernel_rfl) (by kernel_rfl) (by kernel_rfl) (fun _ _ _ h => h) hC6 ?w9_29 ?y9_29 ?f9_29 ?r9_29
          case w9_29 => kernel_rfl
          case y9_29 => (intro w hC; go_simp; try with_reducible rfl)
          case f9_29 => (go_simp; try with_reducible rfl)
          refine anyC_take (i := 10) (v := ?v10_30) (a' := ?a10_30) rfl (by kernel_rfl) (by kernel_rfl) (by kernel_rfl) (fun _ _ _ h => h) hC6 ?w10_30 ?y10_30 ?f10_30 ?r10_30
          case w10_30 => kernel_rfl
          case y10_30 => (intro w hC; go_simp; try with_reducible rfl)
          case f10_30 => (go_simp; try with_reducible rfl)
          refine anyC_take (i := 11) (v := ?v11_31) (a' := ?a11_31) rfl (by kernel_rfl) (by kernel_rfl) (by kernel_rfl) (fun _ _ _ h => h) hC6 ?w11_31 ?y11_31 ?f11_31 ?r11_31
          case w11_31 => kernel_rfl
          case y11_31 => (intro w hC; go_simp; try with_reducible rfl)
          case f11_31 => (go_simp; try with_reducible rfl)
          refine anyC_take (i := 12) (v := ?v12_32) (a' := ?a12_32) rfl (by kernel_rfl) (by kernel_rfl) (by kernel_rfl) (fun _ _ _ h => h) hC6 ?w12_32 ?y12_32 ?f12_32 ?r12_32
          case w12_32 => kernel_rfl
          case y12_32 => (intro w hC; go_simp; try with_reducible rfl)
          case f12_32 => (go_simp; try with_reducible rfl)
          refine anyC_take (i := 13) (v := ?v13_33) (a' := ?a13_33) rfl (by kernel_rfl) (by kernel_rfl) (by kernel_rfl) (fun _ _ _ h => h) hC6 ?w13_33 ?y13_33 ?f13_33 ?r13_33
          case w13_33 => kernel_rfl
          case y13_33 => (intro w hC; go_simp; try with_reducible rfl)
          case f13_33 => (go_simp; try with_reducible rfl)
          refine anyC_done (by kernel_rfl) ?_
          have HR6 := Lib.hid (HR5.out.below0 hC6)
          have HRD6 := Lib.hid hr6
          clear hC5 hC6 HR5 HC5 hr6
          obtain ⟨i0, hi0, hz0, hz1, hz2⟩ := info_parts info_u8

          have hla : (Rm.L ps a i).length ≤ 328000 := by
            have h1 := Rm.cat_le _ HLE.out
            rw [List.length_take] at h1
            unfold Rm.L
            rw [Nat.min_eq_left (by omega)]
            have : min i ps.length ≤ i := Nat.min_le_left _ _
            omega
          go_wp2_with (at_builtin; go_must (refine wpList_app rfl _ _ 29 rfl w.heap.size 5 i0 (.int .u8 0) 1 Tryd.underlying29 hi0 hz0 hz1 hz2 rfl _ _ _ rfl HR6.out.ownL w6.heap.size A6 _ c6 (u8s (Fm.frm kd b)) rfl (by rw [List.length_map]) HRD6.out (oneCell_ints _ _) (by rw [HFL.out]; unfold maxLen; omega) (by rw [HFL.out]; omega) HR6.out.bel.size ?_); intro v7 w7 hown7 hgrow7 hblk7; have HR7 := Lib.hid (HR6.out.growL hgrow7 (L' := Rm.L ps a i ++ Fm.frm kd b) (by rw [List.length_append, show u8s (Rm.L ps a i ++ Fm.frm kd b) = u8s (Rm.L ps a i) ++ u8s (Fm.frm kd b) from List.map_append]; exact hown7) hblk7).1; clear hown7 hgrow7 hblk7)
          go_roundg (gk - 1)
          case measure => omega
          case rel => exact ⟨i + 1, by omega, by go_num, Lib.hid (Rm.more_ok HLE.out HPI.out hmx), Lib.hid (by rw [Rm.L_lo hia HPI.out, Rm.T_lo (by omega), Rm.E_lo (by omega)]; rw [Rm.T_lo (by omega), Rm.E_lo (by omega)] at HR7; exact HR7.out)⟩
        · skip
          have hai : a ≤ i := by omega
          clear hia
          have HSY := Lib.hid (sync_c HX.out (Nat.le_trans (Rm.size_st HLE.out) (by omega)))
          go_upto_if 55 with fail
          go_cut [] from 53 to 57 (fun wx => Hid (Rec (fun _ => False) w wx g (Rm.st' ps a i) u13 u14 u15 (Rm.T ps a i) (Rm.L ps a i) (Rm.E ps a i)))
          case first =>
            by_cases hia : i = a
            · have q1 : ((i : Int) == (a : Int)) = true := by rw [beq_iff_eq]; omega
              subst hia
              rw [Rm.st_sync] at HSY
              dsimp only at HSY
              go_wp2_with (go_at_call 14; refine HSY.out.mono ?_; rintro e w4 ⟨rfl, j4, -⟩)
              go_meet
              case rel => exact j4
            · have q1 : ((i : Int) == (a : Int)) = false := by rw [beq_eq_false_iff_ne]; omega
              go_wp2
              go_meet
              case rel => rw [← Rm.st_gt (by omega)]; exact HX
          case rest =>
            have HQ := Lib.hid hcut.out
            clear HX HSY
            have hz : Jm.size (Rm.st' ps a i) ≤ 328000 := Nat.le_trans (Rm.size_st' hai HLE.out) (by omega)
            have HAP := Lib.hid (fun (W : World) (q : Below wc.heap.size wc W) => append_c (HQ.out.below0 q) HT.out kd Ab b.length cb w.heap.size b hkk (HRB.out.below (HQ.out.bel.trans (q.mono HQ.out.bel.size))) rfl hlb hmb (Nat.le_trans HQ.out.bel.size q.size) HBB.out (by omega))
            have HCX := Lib.hid (fun (W : World) (q : Below wc.heap.size wc W) => HQ.out.bel.trans (q.mono HQ.out.bel.size))
            by_cases hmy : 8192 < b.length
            · rw [Jm.append_many hmy] at HAP
              dsimp only at HAP
              go_wp2_with fail
              refine region_F (fun W => Below wc.heap.size wc W) (fun j => j == 9) (by kernel_rfl) ?_
              have hC : Below wc.heap.size wc wc.drew := (Below.refl _ _).drew
              refine anyP_take (i := 0) (v := ?v0_34) (a' := ?a0_34) rfl (by kernel_rfl) (by kernel_rfl) (by kernel_rfl) (fun _ _ _ h => h) (by first | exact .inl hC | exact .inr (by kernel_rfl)) (by kernel_rfl) ?w0_34 ?y0_34 ?f0_34 ?r0_34
              case w0_34 => kernel_rfl
              case y0_34 => (intro w hC; go_simp; try with_reducible rfl)
              case f0_34 => (go_simp; try with_reducible rfl)
              refine anyP_take (i := 1) (v := ?v1_35) (a' := ?a1_35) rfl (by kernel_rfl) (by kernel_rfl) (by kernel_rfl) (fun _ _ _ h => h) (by first | exact .inl hC | exact .inr (by kernel_rfl)) (by kernel_rfl) ?w1_35 ?y1_35 ?f1_35 ?r1_35
              case w1_35 => kernel_rfl
              case y1_35 => (intro w hC; go_simp; try with_reducible rfl)
              case f1_35 => (go_simp; try with_reducible rfl)
              refine anyP_take (i := 2) (v := ?v2_36) (a' := ?a2_36) rfl (by kernel_rfl) (by kernel_rfl) (by kernel_rfl) (fun _ _ _ h => h) (by first | exact .inl hC | exact .inr (by kernel_rfl)) (by kernel_rfl) ?w2_36 ?y2_36 ?f2_36 ?r2_36
              case w2_36 => kernel_rfl
              case y2_36 => (intro w hC; go_simp; try with_reducible rfl)
              case f2_36 => (go_simp; try with_reducible rfl)
              refine anyP_take (i := 3) (v := ?v3_37) (a' := ?a3_37) rfl (by kernel_rfl) (by kernel_rfl) (by kernel_rfl) (fun _ _ _ h => h) (by first | exact .inl hC | exact .inr (by kernel_rfl)) (by kernel_rfl) ?w3_37 ?y3_37 ?f3_37 ?r3_37
              case w3_37 => kernel_rfl
              case y3_37 => (intro w hC; go_simp; try with_reducible rfl)
              case f3_37 => (go_simp; try with_reducible rfl)
              refine anyP_take (i := 5) (v := ?v5_38) (a' := ?a5_38) rfl (by kernel_rfl) (by kernel_rfl) (by kernel_rfl) (fun _ _ _ h => h) (by first | exact .inl hC | exact .inr (by kernel_rfl)) (by kernel_rfl) ?w5_38 ?y5_38 ?f5_38 ?r5_38
              case w5_38 => kernel_rfl
              case y5_38 => (intro w hC; go_simp; try with_reducible rfl)
              case f5_38 => (go_simp; try with_reducible rfl)
              refine anyP_take (i := 6) (v := ?v6_39) (a' := ?a6_39) rfl (by kernel_rfl) (by kernel_rfl) (by kernel_rfl) (fun _ _ _ h => h) (by first | exact .inl hC | exact .inr (by kernel_rfl)) (by kernel_rfl) ?w6_39 ?y6_39 ?f6_39 ?r6_39
              case w6_39 => kernel_rfl
              case y6_39 => (intro w hC; go_simp; try with_reducible rfl)
              case f6_39 => (go_simp; try with_reducible rfl)
              refine anyP_take (i := 7) (v := ?v7_40) (a' := ?a7_40) rfl (by kernel_rfl) (by kernel_rfl) (by kernel_rfl) (fun _ _ _ h => h) (by first | exact .inl hC | exact .inr (by kernel_rfl)) (by kernel_rfl) ?w7_40 ?y7_40 ?f7_40 ?r7_40
              case w7_40 => kernel_rfl
              case y7_40 => (intro w hC; go_simp; try with_reducible rfl)
              case f7_40 => (go_simp; try with_reducible rfl)
              refine anyF_take (i := 4) (v := ?v4_41) (a' := ?a4_41) rfl (by kernel_rfl) (by kernel_rfl) (by kernel_rfl) (fun _ _ _ h => h) hC (by kernel_rfl) ?w4_41 ?y4_41 ?f4_41 ?r4_41
              case w4_41 => kernel_rfl
              case y4_41 => (intro w hC; have h4 := HK0.out w (HCX.out w hC); go_simp; try with_reducible rfl)
              case f4_41 => (go_simp; try with_reducible rfl)
              refine anyF_take (i := 8) (v := ?v8_42) (a' := ?a8_42) rfl (by kernel_rfl) (by kernel_rfl) (by kernel_rfl) (fun _ _ _ h => h) hC (by kernel_rfl) ?w8_42 ?y8_42 ?f8_42 ?r8_42
              case w8_42 => kernel_rfl
              case y8_42 => (intro w hC; have h4 := HK1.out w (HCX.out w hC); go_simp; try with_reducible rfl)
              case f8_42 => (go_simp; try with_reducible rfl)
              refine anyF_one (i := 9) rfl (by kernel_rfl) (by kernel_rfl) (fun K hK => ?_)
              go_simp
              refine (HAP.out _ hC).mono ?_
              rintro e w5 ⟨rfl, j5, -⟩
              refine hK _ _ ⟨.inr (by kernel_rfl), ?_⟩
              clear hK K
              refine anyP_take (i := 10) (v := ?v10_43) (a' := ?a10_43) rfl (by kernel_rfl) (by kernel_rfl) (by kernel_rfl) (fun _ _ _ h => h) (by first | exact .inl hC | exact .inr (by kernel_rfl)) (by kernel_rfl) ?w10_43 ?y10_43 ?f10_43 ?r10_43
              case w10_43 => kernel_rfl
              case y10_43 => (intro w hC; go_simp; try with_reducible rfl)
              case f10_43 => (go_simp; try with_reducible rfl)
              refine anyF_done (by kernel_rfl) ?_
              go_wp2
              go_ret
              exact ⟨rfl, j5.bel⟩
            have hmx : b.length ≤ 8192 := by omega
            rw [Rm.st_hi hmx hai HPI.out] at HAP
            dsimp only at HAP
            go_wp2_with fail
            refine region_F (fun W => Below wc.heap.size wc W) (fun j => j == 9) (by kernel_rfl) ?_
            have hC : Below wc.heap.size wc wc.drew := (Below.refl _ _).drew
            refine anyP_take (i := 0) (v := ?v0_44) (a' := ?a0_44) rfl (by kernel_rfl) (by kernel_rfl) (by kernel_rfl) (fun _ _ _ h => h) (by first | exact .inl hC | exact .inr (by kernel_rfl)) (by kernel_rfl) ?w0_44 ?y0_44 ?f0_44 ?r0_44
            case w0_44 => kernel_rfl
            case y0_44 => (intro w hC; go_simp; try with_reducible rfl)
            case f0_44 => (go_simp; try with_reducible rfl)
            refine anyP_take (i := 1) (v := ?v1_45) (a' := ?a1_45) rfl (by kernel_rfl) (by kernel_rfl) (by kernel_rfl) (fun _ _ _ h => h) (by first | exact .inl hC | exact .inr (by kernel_rfl)) (by kernel_rfl) ?w1_45 ?y1_45 ?f1_45 ?r1_45
            case w1_45 => kernel_rfl
            case y1_45 => (intro w hC; go_simp; try with_reducible rfl)
            case f1_45 => (go_simp; try with_reducible rfl)
            refine anyP_take (i := 2) (v := ?v2_46) (a' := ?a2_46) rfl (by kernel_rfl) (by kernel_rfl) (by kernel_rfl) (fun _ _ _ h => h) (by first | exact .inl hC | exact .inr (by kernel_rfl)) (by kernel_rfl) ?w2_46 ?y2_46 ?f2_46 ?r2_46
            case w2_46 => kernel_rfl
            case y2_46 => (intro w hC; go_simp; try with_reducible rfl)
            case f2_46 => (go_simp; try with_reducible rfl)
            refine anyP_take (i := 3) (v := ?v3_47) (a' := ?a3_47) rfl (by kernel_rfl) (by kernel_rfl) (by kernel_rfl) (fun _ _ _ h => h) (by first | exact .inl hC | exact .inr (by kernel_rfl)) (by kernel_rfl) ?w3_47 ?y3_47 ?f3_47 ?r3_47
            case w3_47 => kernel_rfl
            case y3_47 => (intro w hC; go_simp; try with_reducible rfl)
            case f3_47 => (go_simp; try with_reducible rfl)
            refine anyP_take (i := 5) (v := ?v5_48) (a' := ?a5_48) rfl (by kernel_rfl) (by kernel_rfl) (by kernel_rfl) (fun _ _ _ h => h) (by first | exact .inl hC | exact .inr (by kernel_rfl)) (by kernel_rfl) ?w5_48 ?y5_48 ?f5_48 ?r5_48
            case w5_48 => kernel_rfl
            case y5_48 => (intro w hC; go_simp; try with_reducible rfl)
            case f5_48 => (go_simp; try with_reducible rfl)
            refine anyP_take (i := 6) (v := ?v6_49) (a' := ?a6_49) rfl (by kernel_rfl) (by kernel_rfl) (by kernel_rfl) (fun _ _ _ h => h) (by first | exact .inl hC | exact .inr (by kernel_rfl)) (by kernel_rfl) ?w6_49 ?y6_49 ?f6_49 ?r6_49
            case w6_49 => kernel_rfl
            case y6_49 => (intro w hC; go_simp; try with_reducible rfl)
            case f6_49 => (go_simp; try with_reducible rfl)
            refine anyP_take (i := 7) (v := ?v7_50) (a' := ?a7_50) rfl (by kernel_rfl) (by kernel_rfl) (by kernel_rfl) (fun _ _ _ h => h) (by first | exact .inl hC | exact .inr (by kernel_rfl)) (by kernel_rfl) ?w7_50 ?y7_50 ?f7_50 ?r7_50
            case w7_50 => kernel_rfl
            case y7_50 => (intro w hC; go_simp; try with_reducible rfl)
            case f7_50 => (go_simp; try with_reducible rfl)
            refine anyF_take (i := 4) (v := ?v4_51) (a' := ?a4_51) rfl (by kernel_rfl) (by kernel_rfl) (by kernel_rfl) (fun _ _ _ h => h) hC (by kernel_rfl) ?w4_51 ?y4_51 ?f4_51 ?r4_51
            case w4_51 => kernel_rfl
            case y4_51 => (intro w hC; have h4 := HK0.out w (HCX.out w hC); go_simp; try with_reducible rfl)
            case f4_51 => (go_simp; try with_reducible rfl)
            refine anyF_take (i := 8) (v := ?v8_52) (a' := ?a8_52) rfl (by kernel_rfl) (by kernel_rfl) (by kernel_rfl) (fun _ _ _ h => h) hC (by kernel_rfl) ?w8_52 ?y8_52 ?f8_52 ?r8_52
            case w8_52 => kernel_rfl
            case y8_52 => (intro w hC; have h4 := HK1.out w (HCX.out w hC); go_simp; try with_reducible rfl)
            case f8_52 => (go_simp; try with_reducible rfl)
            refine anyF_one (i := 9) rfl (by kernel_rfl) (by kernel_rfl) (fun K hK => ?_)
            go_simp
            refine (HAP.out _ hC).mono ?_
            rintro e w5 ⟨rfl, j5, -⟩
            refine hK _ _ ⟨.inr (by kernel_rfl), ?_⟩
            clear hK K HAP HCX
            refine anyP_take (i := 10) (v := ?v10_53) (a' := ?a10_53) rfl (by kernel_rfl) (by kernel_rfl) (by kernel_rfl) (fun _ _ _ h => h) (by first | exact .inl hC | exact .inr (by kernel_rfl)) (by kernel_rfl) ?w10_53 ?y10_53 ?f10_53 ?r10_53
            case w10_53 => kernel_rfl
            case y10_53 => (intro w hC; go_simp; try with_reducible rfl)
            case f10_53 => (go_simp; try with_reducible rfl)
            refine anyF_done (by kernel_rfl) ?_
            have HFL : Hid ((Fm.frm kd b).length = b.length + 8) := Fm.frm_len _ _
            have HR5 := Lib.hid j5
            have HC5 := Lib.hid (fun (W : World) (q : Below w5.heap.size w5 W) => HR5.out.bel.trans (q.mono HR5.out.bel.size))
            have HPU := Lib.hid (fun (W : World) (q : Below w5.heap.size w5 W) => FRPut_any kd Ab b.length cb w.heap.size b W hkk (HRB.out.below (HC5.out W q)) rfl hlb hmb (Nat.le_trans HR5.out.bel.size q.size) HBB.out)
            rw [Fm.put_ok hmx] at HPU
            dsimp only at HPU
            clear j5
            go_wp2_with fail
            refine region_C (fun W => Below w5.heap.size w5 W) (by kernel_rfl) ?_
            have hC5 : Below w5.heap.size w5 w5.drew := (Below.refl _ _).drew
            refine anyC_take (i := 0) (v := ?v0_54) (a' := ?a0_54) rfl (by kernel_rfl) (by kernel_rfl) (by kernel_rfl) (fun _ _ _ h => h) hC5 ?w0_54 ?y0_54 ?f0_54 ?r0_54
            case w0_54 => kernel_rfl
            case y0_54 => (intro w hC; go_simp; try with_reducible rfl)
            case f0_54 => (go_simp; try with_reducible rfl)
            refine anyC_take (i := 1) (v := ?v1_55) (a' := ?a1_55) rfl (by kernel_rfl) (by kernel_rfl) (by kernel_rfl) (fun _ _ _ h => h) hC5 ?w1_55 ?y1_55 ?f1_55 ?r1_55
            case w1_55 => kernel_rfl
            case y1_55 => (intro w hC; go_simp; try with_reducible rfl)
            case f1_55 => (go_simp; try with_reducible rfl)
            refine anyC_take (i := 2) (v := ?v2_56) (a' := ?a2_56) rfl (by kernel_rfl) (by kernel_rfl) (by kernel_rfl) (fun _ _ _ h => h) hC5 ?w2_56 ?y2_56 ?f2_56 ?r2_56
            case w2_56 => kernel_rfl
            case y2_56 => (intro w hC; go_simp; try with_reducible rfl)
            case f2_56 => (go_simp; try with_reducible rfl)
            refine anyC_take (i := 4) (v := ?v4_57) (a' := ?a4_57) rfl (by kernel_rfl) (by kernel_rfl) (by kernel_rfl) (fun _ _ _ h => h) hC5 ?w4_57 ?y4_57 ?f4_57 ?r4_57
            case w4_57 => kernel_rfl
            case y4_57 => (intro w hC; go_simp; try with_reducible rfl)
            case f4_57 => (go_simp; try with_reducible rfl)
            refine anyC_take (i := 5) (v := ?v5_58) (a' := ?a5_58) rfl (by kernel_rfl) (by kernel_rfl) (by kernel_rfl) (fun _ _ _ h => h) hC5 ?w5_58 ?y5_58 ?f5_58 ?r5_58
            case w5_58 => kernel_rfl
            case y5_58 => (intro w hC; go_simp; try with_reducible rfl)
            case f5_58 => (go_simp; try with_reducible rfl)
            refine anyC_take (i := 6) (v := ?v6_59) (a' := ?a6_59) rfl (by kernel_rfl) (by kernel_rfl) (by kernel_rfl) (fun _ _ _ h => h) hC5 ?w6_59 ?y6_59 ?f6_59 ?r6_59
            case w6_59 => kernel_rfl
            case y6_59 => (intro w hC; go_simp; try with_reducible rfl)
            case f6_59 => (go_simp; try with_reducible rfl)
            refine anyC_take (i := 3) (v := ?v3_60) (a' := ?a3_60) rfl (by kernel_rfl) (by kernel_rfl) (by kernel_rfl) (fun _ _ _ h => h) hC5 ?w3_60 ?y3_60 ?f3_60 ?r3_60
            case w3_60 => kernel_rfl
            case y3_60 => (intro w hC; have h4 := HK0.out w (HC5.out w hC); go_simp; try with_reducible rfl)
            case f3_60 => (go_simp; try with_reducible rfl)
            refine anyC_take (i := 7) (v := ?v7_61) (a' := ?a7_61) rfl (by kernel_rfl) (by kernel_rfl) (by kernel_rfl) (fun _ _ _ h => h) hC5 ?w7_61 ?y7_61 ?f7_61 ?r7_61
            case w7_61 => kernel_rfl
            case y7_61 => (intro w hC; have h4 := HK1.out w (HC5.out w hC); go_simp; try with_reducible rfl)
            case f7_61 => (go_simp; try with_reducible rfl)
            refine anyC_one (i := 8) rfl (by kernel_rfl) (by kernel_rfl) (fun K hK => ?_)
            go_simp
            refine (HPU.out _ hC5).mono ?_
            rintro e w6 ⟨v6, rfl, hown6, hb6⟩
            obtain ⟨A6, c6, rfl, hc6, hm6, hr6⟩ := own_view hown6
            have hC6 : Below w5.heap.size w5 w6 := hC5.trans (hb6.mono (by exact Nat.le_refl _))
            refine hK _ _ ⟨hC6, ?_⟩
            clear hK K hown6 hb6 HPU
            refine anyC_take (i := 9) (v := ?v9_62) (a' := ?a9_62) rfl (by kernel_rfl) (by kernel_rfl) (by kernel_rfl) (fun _ _ _ h => h) hC6 ?w9_62 ?y9_62 ?f9_62 ?r9_62
            case w9_62 => kernel_rfl
            case y9_62 => (intro w hC; go_simp; try with_reducible rfl)
            case f9_62 => (go_simp; try with_reducible rfl)
            refine anyC_take (i := 10) (v := ?v10_63) (a' := ?a10_63) rfl (by kernel_rfl) (by kernel_rfl) (by kernel_rfl) (fun _ _ _ h => h) hC6 ?w10_63 ?y10_63 ?f10_63 ?r10_63
            case w10_63 => kernel_rfl
            case y10_63 => (intro w hC; go_simp; try with_reducible rfl)
            case f10_63 => (go_simp; try with_reducible rfl)
            refine anyC_take (i := 11) (v := ?v11_64) (a' := ?a11_64) rfl (by kernel_rfl) (by kernel_rfl) (by kernel_rfl) (fun _ _ _ h => h) hC6 ?w11_64 ?y11_64 ?f11_64 ?r11_64
            case w11_64 => kernel_rfl
            case y11_64 => (intro w hC; go_simp; try with_reducible rfl)
            case f11_64 => (go_simp; try with_reducible rfl)
            refine anyC_take (i := 12) (v := ?v12_65) (a' := ?a12_65) rfl (by kernel_rfl) (by kernel_rfl) (by kernel_rfl) (fun _ _ _ h => h) hC6 ?w12_65 ?y12_65 ?f12_65 ?r12_65
            case w12_65 => kernel_rfl
            case y12_65 => (intro w hC; go_simp; try with_reducible rfl)
            case f12_65 => (go_simp; try with_reducible rfl)
            refine anyC_take (i := 13) (v := ?v13_66) (a' := ?a13_66) rfl (by kernel_rfl) (by kernel_rfl) (by kernel_rfl) (fun _ _ _ h => h) hC6 ?w13_66 ?y13_66 ?f13_66 ?r13_66
            case w13_66 => kernel_rfl
            case y13_66 => (intro w hC; go_simp; try with_reducible rfl)
            case f13_66 => (go_simp; try with_reducible rfl)
            refine anyC_done (by kernel_rfl) ?_
            have HR6 := Lib.hid (HR5.out.below0 hC6)
            have HRD6 := Lib.hid hr6
            clear hC5 hC6 HR5 HC5 hr6
            obtain ⟨i0, hi0, hz0, hz1, hz2⟩ := info_parts info_u8

            have hlt : (Rm.T ps a i).length ≤ 328000 := by
              have h1 := Rm.size_st' hai HLE.out
              have : (Rm.T ps a i).length ≤ Jm.size (Rm.st' ps a i) := Nat.le_add_left _ _
              omega
            obtain ⟨ii, hii, hy0, hy1, hy2⟩ := info_parts_int
            go_wp2_with (first | (at_builtin; (refine wpList_app rfl _ _ 29 rfl w.heap.size 5 i0 (.int .u8 0) 1 Tryd.underlying29 hi0 hz0 hz1 hz2 rfl _ _ _ rfl HR6.out.ownT w6.heap.size A6 _ c6 (u8s (Fm.frm kd b)) rfl (by rw [List.length_map]) HRD6.out (oneCell_ints _ _) (by rw [HFL.out]; unfold maxLen; omega) (by rw [HFL.out]; omega) HR6.out.bel.size ?_); intro v7 w7 hown7 hgrow7 hblk7; have HR7 := Lib.hid (HR6.out.growT hgrow7 (T' := Rm.T ps a (i + 1)) (by rw [Rm.T_hi hai HPI.out, List.length_append, show u8s (Rm.T ps a i ++ Fm.frm kd b) = u8s (Rm.T ps a i) ++ u8s (Fm.frm kd b) from List.map_append]; exact hown7) hblk7).1; obtain ⟨A7, c7, e7, -, -, -⟩ := own_view HR7.out.ownT; subst e7; clear hown7 hgrow7 hblk7; have HR8 := Lib.hid (HR7.out.below0 ((Below.refl _ w7).alloc (Nat.le_refl _) (.cells #[.int .i64 (((Rm.T ps a (i + 1)).length : Nat) : Int)] 3)))) | (at_builtin; (refine wpList_app rfl _ _ 43 rfl w.heap.size 3 ii (.int .i64 0) 8 Tryd.underlying43 hii hy0 hy1 hy2 rfl _ _ _ rfl HR8.out.ownE (w7.heap.size + 1) (some ⟨w7.heap.size, 0, none⟩) 1 1 [.int .i64 (((Rm.T ps a (i + 1)).length : Nat) : Int)] rfl rfl (by exact Rd.new w7 (w7.heap.size + 1) [.int .i64 (((Rm.T ps a (i + 1)).length : Nat) : Int)] 3 (0, 0) (by omega)) (by simp [Value.oneCell']) (by rw [Rm.E_len]; unfold maxLen; omega) (by rw [Rm.E_len]; omega) HR8.out.bel.size ?_); intro v9 w9 hown9 hgrow9 hblk9; have HR9 := Lib.hid (HR8.out.growE hgrow9 (E' := Rm.E ps a (i + 1)) (by rw [Rm.E_hi hai, List.length_append, List.map_append]; exact hown9) hblk9).1; clear hown9 hgrow9 hblk9))
            go_roundg (gk - 1)
            case measure => omega
            case rel => exact ⟨i + 1, by omega, by go_num, Lib.hid (Rm.more_ok HLE.out HPI.out hmx), Lib.hid (by rw [Rm.st_gt (by omega), Rm.L_hi hai]; exact HR9.out)⟩
      · have hin : i = n := by omega
        rw [hin] at HX HLE
        have HLA : Hid (∀ f ∈ ps, f.2.length ≤ 8192) := by
          have := HLE.out
          rwa [← HPN.out, List.take_length] at this
        have hgt : ¬ ((i : Int) < (n : Int)) := by omega
        have HZS := Lib.hid (Rm.size_st' (a := a) han HLE.out)
        have HSY := Lib.hid (sync_c HX.out (Nat.le_trans (Rm.size_st HLE.out) (by omega)))
        clear HLE hi hin hlt
        go_upto_if 100 with fail
        go_cut [] from 98 to 102 (fun wx => Hid (Rec (fun _ => False) w wx g (Rm.st' ps a n) u13 u14 u15 (Rm.T ps a n) (Rm.L ps a n) (Rm.E ps a n)))
        case first =>
          by_cases hia : a = n
          · have q1 : ((a : Int) == (n : Int)) = true := by rw [beq_iff_eq]; omega
            rw [show Rm.st ps a n = Rm.st ps a a by rw [hia], Rm.st_sync, show Rm.st' ps a a = Rm.st' ps a n by rw [hia]] at HSY
            dsimp only at HSY
            clear hia
            go_wp2_with (go_at_call 14; refine HSY.out.mono ?_; rintro e w4 ⟨rfl, j4, -⟩)
            go_meet
            case rel => exact j4
          · have q1 : ((a : Int) == (n : Int)) = false := by rw [beq_eq_false_iff_ne]; omega
            go_wp2
            go_meet
            case rel => rw [← Rm.st_gt (by omega)]; exact HX
        case rest =>
          have HQ := Lib.hid hcut.out
          clear hcut HX HSY hgt
          obtain ⟨p, hp⟩ : ∃ p, p = Jm.part (Rm.st' ps a n) a3 := ⟨_, rfl⟩
          obtain ⟨hp1, hp2⟩ := part_of (Rm.st' ps a n) a3
          rw [← hp] at hp1 hp2
          have hp1' : ((p : Nat) : Int) = (if ((Rm.T ps a n).length : Int) < (if a3 < 0 then 0 else a3) then ((Rm.T ps a n).length : Int) else if a3 < 0 then 0 else a3) := hp1
          have HP := Lib.hid hp
          have HP1 := Lib.hid hp1'
          have hz : Jm.size (Rm.st' ps a n) ≤ 328000 := Nat.le_trans HZS.out (by omega)
          have HCR := Lib.hid (crash_c HQ.out a3 (by omega))
          rw [show Jm.crash (Rm.st' ps a n) a3 = ⟨Fm.cat (ps.take a) ++ (Rm.T ps a n).take p, [], -1, true⟩ by rw [hp]; rfl] at HCR
          clear hp hp1 hp1' hp2
          obtain ⟨A13, c13, e13, hc13, hm13, -⟩ := own_view HQ.out.ownT
          subst e13
          go_upto_region 25 with fail
          go_cut [20] from 103 to 107 (fun kv wx => kv = .int .i64 (p : Int) ∧ wx = wc)
          case first =>
            go_wp2_with fail
            all_goals go_meet
            all_goals exact ⟨congrArg (Value.int IntKind.i64) (by rw [HP1.out]; (repeat' split) <;> omega), rfl⟩
          case rest =>
            obtain ⟨rfl, e2⟩ := hcut
            subst e2
            have HE0 := Rm.ends (a := a) HPN.out HLA.out p
            obtain ⟨q, hq, hal, hmq⟩ := HE0
            have HF := Lib.hid hal
            have HMQ := Lib.hid hmq
            have HFL : Hid ((ps.take (a + q)).length = a + q) := by show _ = _; rw [List.length_take, HPN.out]; omega
            clear hal hmq
            go_wp2_with (go_at_call 20; fail)
            refine HCR.out.mono ?_
            rintro e w8 ⟨rfl, j8, -⟩
            have hok := j8.ok
            have HO8 := Lib.hid (open_c j8 HT.out (by
              have h1 : (Fm.cat (ps.take a)).length + (Rm.T ps a n).length ≤ 328000 := hz
              show (Fm.cat (ps.take a) ++ (Rm.T ps a n).take p).length + 0 ≤ _
              rw [List.length_append, List.length_take]
              omega))
            rw [Jm.opn_free hok.k, HF.out] at HO8
            dsimp only at HO8
            have hE := j8.ownE
            rw [Rm.E_len] at hE
            obtain ⟨A15, c15, e15, hc15, hm15, hrE⟩ := own_view hE
            subst e15
            have HRE := Lib.hid hrE
            have HJ8 := Lib.hid j8
            clear j8 hok hE hrE HCR HF
            go_upto_block 2 with fail
            go_cut [21] from 111 to 124 (fun mx wx => mx = .int .i64 (q : Int) ∧ wx = w8)
            case first =>
              go_wp2_with fail
              go_loopg [21] q (fun gh mx wx => ∃ (m : Nat), gh + m = q ∧ mx = .int .i64 (m : Int) ∧ wx = w8)
              case atStart => exact ⟨0, by omega, rfl, rfl⟩
              case round =>
                obtain ⟨m, hm, rfl, rfl⟩ := hrel
                by_cases hmq : m < q
                · obtain ⟨adE, rfl, -, hcE⟩ := HRE.out m (.int .i64 (((Fm.cat ((ps.drop a).take (m + 1))).length : Nat) : Int)) (by rw [List.getElem?_map, Rm.E_at (by omega)]; rfl)
                  have hle : (Fm.cat ((ps.drop a).take (m + 1))).length ≤ p := (HMQ.out (m + 1) (by omega)).2 (by omega)
                  have r1 : decide ((m : Int) < ((n - a : Nat) : Int)) = true := by simp; omega
                  have r2 : (m : Int) < ((n - a : Nat) : Int) := by omega
                  have r3 : decide ((((Fm.cat ((ps.drop a).take (m + 1))).length : Nat) : Int) ≤ (p : Int)) = true := by simp; omega
                  go_wp2
                  go_roundg (gk - 1)
                  case measure => omega
                  case rel => exact ⟨m + 1, by omega, by go_num, rfl⟩
                · have hmq' : m = q := by omega
                  rw [hmq']
                  clear hmq' hmq hm
                  by_cases hqn : q < n - a
                  · obtain ⟨adE, rfl, -, hcE⟩ := HRE.out q (.int .i64 (((Fm.cat ((ps.drop a).take (q + 1))).length : Nat) : Int)) (by rw [List.getElem?_map, Rm.E_at (by omega)]; rfl)
                    have hle : ¬ (Fm.cat ((ps.drop a).take (q + 1))).length ≤ p := fun h => by have := (HMQ.out (q + 1) (by omega)).1 h; omega
                    have r1 : decide ((q : Int) < ((n - a : Nat) : Int)) = true := by simp; omega
                    have r2 : (q : Int) < ((n - a : Nat) : Int) := by omega
                    have r3 : decide ((((Fm.cat ((ps.drop a).take (q + 1))).length : Nat) : Int) ≤ (p : Int)) = false := by simp; omega
                    go_wp2
                    go_meet
                    case rel => exact ⟨rfl, rfl⟩
                  · have r1 : decide ((q : Int) < ((n - a : Nat) : Int)) = false := by simp; omega
                    go_wp2
                    go_meet
                    case rel => exact ⟨rfl, rfl⟩
            case rest =>
              obtain ⟨rfl, e8⟩ := hcut
              have e8' := e8.symm
              clear e8
              subst e8'
              clear HMQ
              have hFm : ∀ f ∈ ps.take (a + q), f.2.length ≤ 8192 := fun f hf => HLA.out f (List.mem_of_mem_take hf)
              go_wp2_with (go_at_call 22; fail)
              refine HO8.out.mono ?_
              rintro e w9 ⟨kk, bb, rfl, told9, j9, -⟩
              obtain ⟨Ak, ck, us, Ab, cb, rfl, rfl, m9, l9, rk9, rb9, bd9⟩ := told9.outF
              rw [HFL.out] at m9 l9 told9 ⊢
              have hw1 : IntKind.i64.wrap ((a : Int) + (q : Int)) = (a : Int) + (q : Int) := IntWalk.i64_in _ (by omega)
              have HTL := Lib.hid told9
              have HJ9 := Lib.hid j9
              have HK9 := Lib.hid rk9
              have HB9 := Lib.hid rb9
              have HD9 := Lib.hid bd9
              clear told9 j9 rk9 rb9 bd9 HO8
              go_wp2_with fail
              go_loopg [25] (a + q) (fun gh ix wq => ∃ (i nd : Nat), gh + i = a + q ∧ ix = .int .i64 (i : Int) ∧ Hid (wq = w9.drewN nd))
              case atStart => exact ⟨0, 0, by omega, rfl, Lib.hid rfl⟩
              case round =>
                obtain ⟨i, nd, hi, rfl, hWq⟩ := hrel
                by_cases hlt : i < a + q
                · have hip : i < ps.length := by rw [HPN.out]; omega
                  obtain ⟨⟨kd, b⟩, hpi⟩ : ∃ x, ps[i]? = some x := ⟨ps[i], List.getElem?_eq_getElem hip⟩
                  have hzz := hpi
                  rw [HPS.out, List.getElem?_zip_eq_some] at hzz
                  obtain ⟨hkd, hbk⟩ := hzz
                  dsimp only at hkd hbk
                  obtain ⟨v, hvk⟩ : ∃ x, vs[i]? = some x := ⟨vs[i]'(by rw [HN1.out]; omega), List.getElem?_eq_getElem _⟩
                  have hbw : Below w.heap.size w wr := by rw [hWq.out]; exact below_drawn HJ9.out.bel nd
                  obtain ⟨ad0, rfl, -, q1⟩ := (HR0.out.below hbw).getU hkd
                  obtain ⟨ad1, rfl, -, q3⟩ := (HR1.out.below hbw) i v hvk
                  obtain ⟨Av, cv, rfl, -, -, hrv⟩ := (HBD.out.below hbw).2 i v b hvk hbk
                  have htk : (ps.take (a + q))[i]? = some (kd, b) := by rw [List.getElem?_take_of_lt hlt]; exact hpi
                  have hk9 : Rd wr w9.heap.size Ak (u8s ((ps.take (a + q)).map (·.1))) := by rw [hWq.out]; exact HK9.out
                  have hb9 : Rd wr w9.heap.size Ab us := by rw [hWq.out]; exact HB9.out
                  obtain ⟨adk, rfl, -, q0⟩ := hk9.getU (i := i) (x := kd) (by rw [List.getElem?_map, htk]; rfl)
                  have hbi : ((ps.take (a + q)).map (·.2))[i]? = some b := by rw [List.getElem?_map, htk]; rfl
                  obtain ⟨vv, hvv⟩ : ∃ x, us[i]? = some x := ⟨us[i]'(by rw [HD9.out.1, List.length_map, HFL.out]; exact hlt), List.getElem?_eq_getElem _⟩
                  obtain ⟨adl, rfl, -, q2⟩ := hb9 i vv hvv
                  obtain ⟨Au, cu, rfl, -, -, hru⟩ := HD9.out.2 i vv b hvv hbi
                  have s1 : ∀ nq, (convert 29 9 (.slice Au b.length cu)).run Tryd.prog (wr.drewN nq) = .ok (.string (strOfNums b)) (wr.drewN nq) := fun nq => by
                    rw [hWq.out]
                    exact str_of ((hru.drewN nd).drewN nq) rfl
                  have s2 : ∀ nq, (convert 29 9 (.slice Av b.length cv)).run Tryd.prog (wr.drewN nq) = .ok (.string (strOfNums b)) (wr.drewN nq) := fun nq => str_of (hrv.drewN nq) rfl
                  have n1 : (i : Int) < (a : Int) + (q : Int) := by omega
                  have n1' : (i : Int) < ((a + q : Nat) : Int) := by omega
                  have n2 : (i : Int) < (len0 : Int) := by omega
                  have n3 : (i : Int) < (len1 : Int) := by omega
                  clear hkd hbk hvk hvv hbi htk hpi hip hk9 hb9 hru hrv hbw
                  go_wp2_with fail
                  go_quiet (fail)
                  go_wp2
                  go_roundg (gk - 1)
                  case measure => omega
                  case rel => exact ⟨i + 1, nd + _, by omega, by go_num, Lib.hid (by rw [hWq.out, World.drewN_drewN])⟩
                · have hia : ¬ ((i : Int) < (a : Int) + (q : Int)) := by omega
                  have HJr : Hid (Rec (fun b => w8.heap.size ≤ b ∧ b < w9.heap.size) w wr g ⟨Fm.cat (ps.take (a + q)), [], -1, false⟩ (.slice A13 (Rm.T ps a n).length c13) u14 (.slice A15 (n - a) c15) (Rm.T ps a n) (Rm.L ps a n) (Rm.E ps a n)) := by
                    rw [hWq.out]
                    exact (HJ9.out.weak (fun b q => .inr q)).below0 (below_drawn (Below.refl _ _) nd)
                  have HKr : Hid (Kp (fun b => w8.heap.size ≤ b ∧ b < w9.heap.size) w9 wr) := by
                    rw [hWq.out]
                    exact ⟨Nat.le_refl _, fun _ _ => rfl⟩
                  clear hWq HJ9 hi hlt
                  go_upto_if 178 with fail
                  go_cut [14] from 177 to 187 (fun va wx => Hid (Rec (fun b => w8.heap.size ≤ b ∧ b < w9.heap.size) w wx g ⟨Fm.cat (ps.take (a + q)), [], -1, false⟩ (.slice A13 (Rm.T ps a n).length c13) va (.slice A15 (n - a) c15) (Rm.T ps a n) (Fm.cat (ps.take (a + q))) (Rm.E ps a n)) ∧ Hid (Kp (fun b => w8.heap.size ≤ b ∧ b < w9.heap.size) w9 wx))
                  case first =>
                    by_cases hq0 : q = 0
                    · have r0 : decide ((0 : Int) < (q : Int)) = false := by simp; omega
                      have r0' : decide (0 < q) = false := by simp; omega
                      have r0p : ¬ ((0 : Int) < (q : Int)) := by omega
                      have r0q : ¬ (0 < q) := by omega
                      clear r0 r0'
                      have e := Rm.L_all (ps := ps) han q
                      have e0 : Rm.L ps a n = Fm.cat (ps.take (a + q)) := by rw [hq0, List.take_zero, Fm.cat_nil, List.append_nil] at e; rw [hq0]; exact e
                      rw [e0] at HJr
                      clear e e0 hq0
                      go_wp2
                      go_meet
                      case rel => exact ⟨HJr, HKr⟩
                    · obtain ⟨qm, hqm⟩ : ∃ qm, q = qm + 1 := ⟨q - 1, by omega⟩
                      subst hqm
                      have r0 : decide ((0 : Int) < (qm : Int) + 1) = true := decide_eq_true (by omega)
                      have hE := HJr.out.ownE
                      rw [Rm.E_len] at hE
                      obtain ⟨adE, hadE, -, hcE⟩ := (Rd.of_own hE) qm (.int .i64 (((Fm.cat ((ps.drop a).take (qm + 1))).length : Nat) : Int)) (by rw [List.getElem?_map, Rm.E_at (by omega)]; rfl)
                      subst hadE
                      obtain ⟨i0, hi0, hz0, hz1, hz2⟩ := info_parts info_u8
                      have hTl := Rm.T_le (ps := ps) (a := a) HPN.out (qm + 1)
                      have hTz : (Rm.T ps a n).length ≤ 328000 := by
                        have : (Rm.T ps a n).length ≤ Jm.size (Rm.st' ps a n) := Nat.le_add_left _ _
                        omega
                      have hLz : (Rm.L ps a n).length ≤ 328000 := by
                        have h1 : Rm.L ps a n = (Rm.st' ps a n).kept := by unfold Rm.L Rm.st'; rw [Nat.min_eq_right han]
                        rw [h1]
                        exact Nat.le_trans (Nat.le_add_right _ _) hz
                      have hsl : ∀ W, (Instr.slice 29 (.slice A13 (Rm.T ps a n).length c13) none (some (.int .i64 (((Fm.cat ((ps.drop a).take (qm + 1))).length : Nat) : Int))) none).run Tryd.prog W = .ok (.slice (cutA A13 0 c13) (Fm.cat ((ps.drop a).take (qm + 1))).length c13) W := fun W => run_cut_h (P := Tryd.prog) Tryd.underlying29 (size_of_info hi0 hz1) A13 _ c13 _ (by omega) W
                      have hrc := rd_cut0 (n := (Fm.cat ((ps.drop a).take (qm + 1))).length) (Rd.of_own HJr.out.ownT) hc13
                      rw [Rm.T_cut HPN.out] at hrc
                      have HRC := Lib.hid hrc
                      have HLA2 := Lib.hid (Rm.L_all (ps := ps) han (qm + 1))
                      have r2 : (qm : Int) < ((n - a : Nat) : Int) := by omega
                      generalize cutA A13 0 c13 = Ac at hsl HRC
                      clear hE hrc
                      generalize Fm.cat ((ps.drop a).take (qm + 1)) = ct at *
                      go_wp2_with (at_builtin; go_must (refine wpList_app rfl _ _ 29 rfl w.heap.size 5 i0 (.int .u8 0) 1 Tryd.underlying29 hi0 hz0 hz1 hz2 rfl _ _ _ rfl HJr.out.ownL wr.heap.size Ac ct.length c13 (u8s ct) rfl (by rw [List.length_map]) HRC.out (oneCell_ints _ _) (by unfold maxLen; omega) (by omega) HJr.out.bel.size ?_); intro v7 w7 hown7 hgrow7 hblk7; obtain ⟨HR7, HK7⟩ := HJr.out.growL hgrow7 (L' := Fm.cat (ps.take (a + (qm + 1)))) (by rw [← HLA2.out, List.length_append, show u8s (Rm.L ps a n ++ ct) = u8s (Rm.L ps a n) ++ u8s ct from List.map_append]; exact hown7) hblk7; clear hown7 hgrow7 hblk7)
                      go_meet
                      case rel => exact ⟨HR7, HKr.out.trans HK7⟩
                  case rest =>
                    obtain ⟨HX1, HX2⟩ := hcut
                    have hF1 : (Fm.cat (ps.take (a + q))).length ≤ 328000 := by
                      have h1 := Rm.cat_le _ hFm
                      rw [HFL.out] at h1
                      omega
                    have HO10 := Lib.hid (open_c HX1.out HT.out (by show (Fm.cat (ps.take (a + q))).length + 0 ≤ _; omega))
                    rw [Jm.opn_free HX1.out.ok.k, Jm.al_whole hFm] at HO10
                    dsimp only at HO10
                    clear HJr HKr
                    go_wp2_with (go_at_call 22; fail)
                    refine HO10.out.mono ?_
                    rintro e w11 ⟨kk2, bb2, rfl, told11, j11, k11⟩
                    obtain ⟨Al, cl, us2, Am, cm, rfl, rfl, m11, l11, rk11, rb11, bd11⟩ := told11.outF
                    have hkp := HX2.out.trans k11
                    have told12 : Told w8.heap.size w11 (.slice Ak (a + q) ck) (.slice Ab (a + q) cb) (ps.take (a + q)) := Acc.keep (w := w9) HTL.out hkp.1 (fun b h1 h2 => hkp.2 b ⟨h1, h2⟩)
                    obtain ⟨Ak', ck', us3, Ab', cb', e31, e32, m12, l12, rk12, rb12, bd12⟩ := told12.outF
                    rw [HFL.out] at e31 e32 m12 l12 m11 l11 ⊢
                    cases e31
                    cases e32
                    have hFby : ∀ x ∈ (ps.take (a + q)).map (·.2), Fm.By x := fun x hx => by
                      obtain ⟨f, hf, rfl⟩ := List.mem_map.1 hx
                      have h3 := List.mem_of_mem_take hf
                      rw [HPS.out] at h3
                      exact HB1.out _ (List.of_mem_zip h3).2
                    have hml : ((ps.take (a + q)).map (·.2)).length = a + q := by rw [List.length_map]; exact HFL.out
                    have hmk : ((ps.take (a + q)).map (·.1)).length = a + q := by rw [List.length_map]; exact HFL.out
                    have HSM := Lib.hid (fun (W : World) (q2 : Below w11.heap.size w11 W) => Same_any Am Ab (a + q) (a + q) cm cb _ _ us2 us3 _ _ W (rb11.below q2) (rb12.below q2) (bd11.below q2) (bd12.below q2) hml hml (Nat.le_trans l12.1 l12.2) hFby hFby)
                    rw [decide_eq_true rfl] at HSM
                    have HS1 := Lib.hid (fun (W : World) (q2 : Below w11.heap.size w11 W) => str_of (cap := cl) (rk11.below q2) hmk)
                    have HS2 := Lib.hid (fun (W : World) (q2 : Below w11.heap.size w11 W) => str_of (cap := ck) (rk12.below q2) hmk)
                    obtain ⟨A14, c14, e14, -, -, rd14⟩ := own_view j11.ownL
                    subst e14
                    have HS3 := Lib.hid (fun (W : World) (q2 : Below w11.heap.size w11 W) => str_of (cap := c14) (rd14.below q2) rfl)
                    have HSY := Lib.hid (fun (W : World) (q2 : Below w11.heap.size w11 W) => synced_c (j11.below0 q2) (by show (Fm.cat (ps.take (a + q))).length + 0 ≤ _; omega))
                    have HTA := Lib.hid (fun (W : World) (q2 : Below w11.heap.size w11 W) => tail_c (j11.below0 q2) (by show (Fm.cat (ps.take (a + q))).length + 0 ≤ _; omega))
                    have HJ11 := Lib.hid j11.bel
                    clear told11 told12 j11 k11 hkp rk11 rb11 bd11 rk12 rb12 bd12 rd14 HO10 HTL m11 l11 m12 l12 hml hmk hFby
                    generalize hct : Fm.cat (ps.take (a + q)) = ct at *
                    clear hct
                    go_wp2_with fail
                    refine region_C (fun W => Below w11.heap.size w11 W) (by kernel_rfl) ?_
                    have hC : Below w11.heap.size w11 w11.drew := (Below.refl _ _).drew
                    refine anyC_take (i := 0) (v := ?v0_67) (a' := ?a0_67) rfl (by kernel_rfl) (by kernel_rfl) (by kernel_rfl) (fun _ _ _ h => h) hC ?w0_67 ?y0_67 ?f0_67 ?r0_67
                    case w0_67 => kernel_rfl
                    case y0_67 => (intro w hC; go_simp; try with_reducible rfl)
                    case f0_67 => (go_simp; try with_reducible rfl)
                    refine anyC_take (i := 1) (v := ?v1_68) (a' := ?a1_68) rfl (by kernel_rfl) (by kernel_rfl) (by kernel_rfl) (fun _ _ _ h => h) hC ?w1_68 ?y1_68 ?f1_68 ?r1_68
                    case w1_68 => kernel_rfl
                    case y1_68 => (intro w hC; go_simp; try with_reducible rfl)
                    case f1_68 => (go_simp; try with_reducible rfl)
                    refine anyC_take (i := 2) (v := ?v2_69) (a' := ?a2_69) rfl (by kernel_rfl) (by kernel_rfl) (by kernel_rfl) (fun _ _ _ h => h) hC ?w2_69 ?y2_69 ?f2_69 ?r2_69
                    case w2_69 => kernel_rfl
                    case y2_69 => (intro w hC; go_simp; try with_reducible rfl)
                    case f2_69 => (go_simp; try with_reducible rfl)
                    refine anyC_take (i := 3) (v := ?v3_70) (a' := ?a3_70) rfl (by kernel_rfl) (by kernel_rfl) (by kernel_rfl) (fun _ _ _ h => h) hC ?w3_70 ?y3_70 ?f3_70 ?r3_70
                    case w3_70 => kernel_rfl
                    case y3_70 => (intro w hC; go_simp; try with_reducible rfl)
                    case f3_70 => (go_simp; try with_reducible rfl)
                    refine anyC_take (i := 6) (v := ?v6_71) (a' := ?a6_71) rfl (by kernel_rfl) (by kernel_rfl) (by kernel_rfl) (fun _ _ _ h => h) hC ?w6_71 ?y6_71 ?f6_71 ?r6_71
                    case w6_71 => kernel_rfl
                    case y6_71 => (intro w hC; go_simp; try with_reducible rfl)
                    case f6_71 => (go_simp; try with_reducible rfl)
                    refine anyC_take (i := 7) (v := ?v7_72) (a' := ?a7_72) rfl (by kernel_rfl) (by kernel_rfl) (by kernel_rfl) (fun _ _ _ h => h) hC ?w7_72 ?y7_72 ?f7_72 ?r7_72
                    case w7_72 => kernel_rfl
                    case y7_72 => (intro w hC; have h4 := HS3.out w hC; go_simp; try with_reducible rfl)
                    case f7_72 => (go_simp; try with_reducible rfl)
                    refine anyC_one (i := 4) rfl (by kernel_rfl) (by kernel_rfl) (fun K hK => ?_)
                    go_simp
                    refine (HSY.out _ hC).mono ?_
                    rintro e w20 ⟨v20, rfl, hown20, hb20⟩
                    obtain ⟨A20, c20, rfl, -, -, hrd20⟩ := own_view hown20
                    have hC20 : Below w11.heap.size w11 w20 := hC.trans (hb20.mono (by exact Nat.le_refl _))
                    have z20 := str_of (cap := c20) hrd20 rfl
                    refine hK _ _ ⟨hC20, ?_⟩
                    clear hK K hown20 hb20 hrd20
                    refine anyC_one (i := 5) rfl (by kernel_rfl) (by kernel_rfl) (fun K hK => ?_)
                    go_simp
                    refine hK _ _ ⟨hC20, ?_⟩
                    clear hK K z20
                    refine anyC_take (i := 8) (v := ?v8_73) (a' := ?a8_73) rfl (by kernel_rfl) (by kernel_rfl) (by kernel_rfl) (fun _ _ _ h => h) hC20 ?w8_73 ?y8_73 ?f8_73 ?r8_73
                    case w8_73 => kernel_rfl
                    case y8_73 => (intro w hC; go_simp; try with_reducible rfl)
                    case f8_73 => (go_simp; try with_reducible rfl)
                    refine anyC_take (i := 9) (v := ?v9_74) (a' := ?a9_74) rfl (by kernel_rfl) (by kernel_rfl) (by kernel_rfl) (fun _ _ _ h => h) hC20 ?w9_74 ?y9_74 ?f9_74 ?r9_74
                    case w9_74 => kernel_rfl
                    case y9_74 => (intro w hC; go_simp; try with_reducible rfl)
                    case f9_74 => (go_simp; try with_reducible rfl)
                    refine anyC_take (i := 10) (v := ?v10_75) (a' := ?a10_75) rfl (by kernel_rfl) (by kernel_rfl) (by kernel_rfl) (fun _ _ _ h => h) hC20 ?w10_75 ?y10_75 ?f10_75 ?r10_75
                    case w10_75 => kernel_rfl
                    case y10_75 => (intro w hC; go_simp; try with_reducible rfl)
                    case f10_75 => (go_simp; try with_reducible rfl)
                    refine anyC_take (i := 11) (v := ?v11_76) (a' := ?a11_76) rfl (by kernel_rfl) (by kernel_rfl) (by kernel_rfl) (fun _ _ _ h => h) hC20 ?w11_76 ?y11_76 ?f11_76 ?r11_76
                    case w11_76 => kernel_rfl
                    case y11_76 => (intro w hC; go_simp; try with_reducible rfl)
                    case f11_76 => (go_simp; try with_reducible rfl)
                    refine anyC_take (i := 13) (v := ?v13_77) (a' := ?a13_77) rfl (by kernel_rfl) (by kernel_rfl) (by kernel_rfl) (fun _ _ _ h => h) hC20 ?w13_77 ?y13_77 ?f13_77 ?r13_77
                    case w13_77 => kernel_rfl
                    case y13_77 => (intro w hC; go_simp; try with_reducible rfl)
                    case f13_77 => (go_simp; try with_reducible rfl)
                    refine anyC_take (i := 12) (v := ?v12_78) (a' := ?a12_78) rfl (by kernel_rfl) (by kernel_rfl) (by kernel_rfl) (fun _ _ _ h => h) hC20 ?w12_78 ?y12_78 ?f12_78 ?r12_78
                    case w12_78 => kernel_rfl
                    case y12_78 => (intro w hC; have h4 := HS1.out w hC; go_simp; try with_reducible rfl)
                    case f12_78 => (go_simp; try with_reducible rfl)
                    refine anyC_take (i := 14) (v := ?v14_79) (a' := ?a14_79) rfl (by kernel_rfl) (by kernel_rfl) (by kernel_rfl) (fun _ _ _ h => h) hC20 ?w14_79 ?y14_79 ?f14_79 ?r14_79
                    case w14_79 => kernel_rfl
                    case y14_79 => (intro w hC; have h4 := HS2.out w hC; go_simp; try with_reducible rfl)
                    case f14_79 => (go_simp; try with_reducible rfl)
                    refine anyC_take (i := 15) (v := ?v15_80) (a' := ?a15_80) rfl (by kernel_rfl) (by kernel_rfl) (by kernel_rfl) (fun _ _ _ h => h) hC20 ?w15_80 ?y15_80 ?f15_80 ?r15_80
                    case w15_80 => kernel_rfl
                    case y15_80 => (intro w hC; go_simp; try with_reducible rfl)
                    case f15_80 => (go_simp; try with_reducible rfl)
                    refine anyC_take (i := 16) (v := ?v16_81) (a' := ?a16_81) rfl (by kernel_rfl) (by kernel_rfl) (by kernel_rfl) (fun _ _ _ h => h) hC20 ?w16_81 ?y16_81 ?f16_81 ?r16_81
                    case w16_81 => kernel_rfl
                    case y16_81 => (intro w hC; go_simp; try with_reducible rfl)
                    case f16_81 => (go_simp; try with_reducible rfl)
                    refine anyC_take (i := 17) (v := ?v17_82) (a' := ?a17_82) rfl (by kernel_rfl) (by kernel_rfl) (by kernel_rfl) (fun _ _ _ h => h) hC20 ?w17_82 ?y17_82 ?f17_82 ?r17_82
                    case w17_82 => kernel_rfl
                    case y17_82 => (intro w hC; go_simp; try with_reducible rfl)
                    case f17_82 => (go_simp; try with_reducible rfl)
                    refine anyC_take (i := 18) (v := ?v18_83) (a' := ?a18_83) rfl (by kernel_rfl) (by kernel_rfl) (by kernel_rfl) (fun _ _ _ h => h) hC20 ?w18_83 ?y18_83 ?f18_83 ?r18_83
                    case w18_83 => kernel_rfl
                    case y18_83 => (intro w hC; go_simp; try with_reducible rfl)
                    case f18_83 => (go_simp; try with_reducible rfl)
                    refine anyC_take (i := 19) (v := ?v19_84) (a' := ?a19_84) rfl (by kernel_rfl) (by kernel_rfl) (by kernel_rfl) (fun _ _ _ h => h) hC20 ?w19_84 ?y19_84 ?f19_84 ?r19_84
                    case w19_84 => kernel_rfl
                    case y19_84 => (intro w hC; go_simp; try with_reducible rfl)
                    case f19_84 => (go_simp; try with_reducible rfl)
                    refine anyC_one (i := 20) rfl (by kernel_rfl) (by kernel_rfl) (fun K hK => ?_)
                    go_simp
                    refine (HSM.out _ hC20).mono ?_
                    rintro e w21 ⟨rfl, nd21, rfl⟩
                    have hC21 : Below w11.heap.size w11 (w20.drewN nd21) := below_drawn hC20 nd21
                    refine hK _ _ ⟨hC21, ?_⟩
                    clear hK K
                    refine anyC_take (i := 21) (v := ?v21_85) (a' := ?a21_85) rfl (by kernel_rfl) (by kernel_rfl) (by kernel_rfl) (fun _ _ _ h => h) hC21 ?w21_85 ?y21_85 ?f21_85 ?r21_85
                    case w21_85 => kernel_rfl
                    case y21_85 => (intro w hC; go_simp; try with_reducible rfl)
                    case f21_85 => (go_simp; try with_reducible rfl)
                    refine anyC_take (i := 22) (v := ?v22_86) (a' := ?a22_86) rfl (by kernel_rfl) (by kernel_rfl) (by kernel_rfl) (fun _ _ _ h => h) hC21 ?w22_86 ?y22_86 ?f22_86 ?r22_86
                    case w22_86 => kernel_rfl
                    case y22_86 => (intro w hC; go_simp; try with_reducible rfl)
                    case f22_86 => (go_simp; try with_reducible rfl)
                    refine anyC_take (i := 23) (v := ?v23_87) (a' := ?a23_87) rfl (by kernel_rfl) (by kernel_rfl) (by kernel_rfl) (fun _ _ _ h => h) hC21 ?w23_87 ?y23_87 ?f23_87 ?r23_87
                    case w23_87 => kernel_rfl
                    case y23_87 => (intro w hC; go_simp; try with_reducible rfl)
                    case f23_87 => (go_simp; try with_reducible rfl)
                    refine anyC_one (i := 24) rfl (by kernel_rfl) (by kernel_rfl) (fun K hK => ?_)
                    go_simp
                    refine (HTA.out _ hC21).mono ?_
                    rintro e w22 ⟨v22, rfl, hown22, hb22⟩
                    obtain ⟨A22, c22, rfl, -, -, -⟩ := own_view hown22
                    have hC22 : Below w11.heap.size w11 w22 := hC21.trans (hb22.mono hC21.size)
                    refine hK _ _ ⟨hC22, ?_⟩
                    clear hK K hown22 hb22
                    refine anyC_take (i := 25) (v := ?v25_88) (a' := ?a25_88) rfl (by kernel_rfl) (by kernel_rfl) (by kernel_rfl) (fun _ _ _ h => h) hC22 ?w25_88 ?y25_88 ?f25_88 ?r25_88
                    case w25_88 => kernel_rfl
                    case y25_88 => (intro w hC; go_simp; try with_reducible rfl)
                    case f25_88 => (go_simp; try with_reducible rfl)
                    refine anyC_take (i := 26) (v := ?v26_89) (a' := ?a26_89) rfl (by kernel_rfl) (by kernel_rfl) (by kernel_rfl) (fun _ _ _ h => h) hC22 ?w26_89 ?y26_89 ?f26_89 ?r26_89
                    case w26_89 => kernel_rfl
                    case y26_89 => (intro w hC; go_simp; try with_reducible rfl)
                    case f26_89 => (go_simp; try with_reducible rfl)
                    refine anyC_take (i := 27) (v := ?v27_90) (a' := ?a27_90) rfl (by kernel_rfl) (by kernel_rfl) (by kernel_rfl) (fun _ _ _ h => h) hC22 ?w27_90 ?y27_90 ?f27_90 ?r27_90
                    case w27_90 => kernel_rfl
                    case y27_90 => (intro w hC; go_simp; try with_reducible rfl)
                    case f27_90 => (go_simp; try with_reducible rfl)
                    refine anyC_take (i := 28) (v := ?v28_91) (a' := ?a28_91) rfl (by kernel_rfl) (by kernel_rfl) (by kernel_rfl) (fun _ _ _ h => h) hC22 ?w28_91 ?y28_91 ?f28_91 ?r28_91
                    case w28_91 => kernel_rfl
                    case y28_91 => (intro w hC; go_simp; try with_reducible rfl)
                    case f28_91 => (go_simp; try with_reducible rfl)
                    refine anyC_done (by kernel_rfl) ?_
                    go_wp2
                    go_ret
                    exact ⟨rfl, HJ11.out.trans (hC22.mono HJ11.out.size)⟩
end Go.Proofs.YtgpagddaopgdgaaDoor
