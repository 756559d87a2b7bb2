/- JournalFuse, walked. -/
import Derived.Test.YtgpagddaopgdgaaDoorJs
namespace Go.Proofs.YtgpagddaopgdgaaDoor
open Go.RowKit Go.Shelf Km

namespace Jm
/-- what holds between two calls under a fuse of n: d effects were done -/
def Fz (n : Int) (d : Nat) (s : St) : Prop := (s.off = false ∧ (d : Int) + s.burn = n ∧ 0 ≤ s.burn) ∨ (s.off = true ∧ (d : Int) = n)
theorem Fz.eff {n : Int} {d : Nat} {s : St} (h : Fz n d s) : ((Jm.eff s).2 = 0 ∧ Fz n (d + 1) (Jm.eff s).1 ∧ (Jm.eff s).1.off = false ∧ (d : Int) + 1 ≤ n) ∨ ((Jm.eff s).2 = 61 ∧ Fz n d (Jm.eff s).1 ∧ (Jm.eff s).1.off = true ∧ (d : Int) = n) := by
  rcases h with ⟨h1, h2, h3⟩ | ⟨h1, h2⟩
  · by_cases h0 : s.burn = 0
    · rw [eff_zero h1 h0]
      exact .inr ⟨rfl, .inr ⟨rfl, by omega⟩, rfl, by omega⟩
    · rw [eff_some h1 (by omega)]
      refine .inl ⟨rfl, .inl ⟨h1, ?_, ?_⟩, h1, by omega⟩
      · show (((d + 1 : Nat)) : Int) + (s.burn - 1) = n
        omega
      · show 0 ≤ s.burn - 1
        omega
  · rw [eff_off h1]
    exact .inr ⟨rfl, .inr ⟨h1, h2⟩, h1, h2⟩
/-- as many as the effect does, whatever is done beside it -/
theorem Fz.like {n : Int} {d : Nat} {s s' : St} (h : Fz n d s) (h1 : s'.off = s.off) (h2 : s'.burn = s.burn) : Fz n d s' := by
  unfold Fz at h ⊢
  rw [h1, h2]
  exact h
def Step (n : Int) (d : Nat) (r : St × Int) : Prop := (r.2 = 0 ∧ Fz n (d + 1) r.1 ∧ r.1.off = false ∧ (d : Int) + 1 ≤ n) ∨ (r.2 = 61 ∧ Fz n d r.1 ∧ r.1.off = true ∧ (d : Int) = n)
theorem Fz.sync {n : Int} {d : Nat} {s : St} (h : Fz n d s) : Step n d (Jm.sync s) := by
  rcases h.eff with ⟨h1, h2, h3, h4⟩ | ⟨h1, h2, h3, h4⟩
  · rw [sync_ok h1]
    exact .inl ⟨rfl, h2.like rfl rfl, h3, h4⟩
  · rw [sync_err (by rw [h1]; decide)]
    exact .inr ⟨h1, h2, h3, h4⟩
theorem Fz.app {n : Int} {d : Nat} {s : St} (h : Fz n d s) {k : Int} {b : List Int} (hb : ¬ 8192 < b.length) : Step n d (Jm.append s k b) := by
  rcases h.eff with ⟨h1, h2, h3, h4⟩ | ⟨h1, h2, h3, h4⟩
  · rw [append_ok hb h1]
    exact .inl ⟨rfl, h2.like rfl rfl, h3, h4⟩
  · rw [append_err hb (by rw [h1]; decide)]
    exact .inr ⟨h1, h2, h3, h4⟩
end Jm

set_option maxRecDepth 100000 in
set_option maxHeartbeats 4000000 in
theorem fuse_walk (a0 : Int) (a1 : Option Addr) (len1 cap1 : Nat) (os : List Cl) (w : World) (w0 : (Lit.int .u8 a0).wf = true) (w1 : ClsAt w w.heap.size a1 len1 cap1 os) (t0 : TabAt w) :
    Calls Tryd.prog 5 #[.int .u8 a0, .slice a1 len1 cap1] w fun e w' => e = .returned (.bool true) ∧ Below w.heap.size w w' := by
  have b0 : 0 ≤ a0 ∧ a0 ≤ 255 := by simpa [Lit.wf, IntKind.min, IntKind.max, IntKind.signed, IntKind.bits] using w0
  have HT := Lib.hid t0.tab
  have HC := Lib.hid w1
  have hN := w1.1
  clear w0 w1 t0
  go_enter Tryd.func5, Tryd.ntmps5
  go_wp2_with (go_at_call 8; refine (head_any _ HT.out).mono ?_; rintro e w1 ⟨rfl, hb1⟩)
  refine (new_own w w1 hb1).mono ?_
  rintro e w2 ⟨rfl, j2⟩
  clear hb1
  generalize w1.heap.size = g at *
  have HG := Lib.hid (great_any a1 len1 cap1 w.heap.size os w2 (HC.out.below j2.bel))
  have HJ2 := Lib.hid j2
  clear j2
  go_wp2_with (go_at_call 11; fail)
  refine HG.out.mono ?_
  rintro e w3 ⟨b, rfl, hwt, rfl⟩
  cases b with
  | true =>
    go_wp2
    go_ret
    exact ⟨rfl, HJ2.out.bel⟩
  | false =>
    have HW := Lib.hid (hwt rfl)
    clear hwt
    have HF := Lib.hid (fuse_own HJ2.out a0 (by omega))
    have hfz : Jm.fuse Jm.new a0 = ⟨[], [], a0, false⟩ := by unfold Jm.fuse; rw [if_neg (by omega)]; rfl
    rw [hfz] at HF
    go_wp2_with (go_at_call 18; refine HF.out.mono ?_; rintro e w4 ⟨rfl, j4⟩)
    go_loopw [7, 8, 9] (fun dx ix ex wr => ∃ (k d : Nat) (s : Jm.St), ix = .int .i64 (k : Int) ∧ dx = .int .i64 (d : Int) ∧ k ≤ len1 ∧ (d : Int) ≤ a0 ∧ Hid (Jm.Fz a0 d s) ∧ Hid (Jm.size s ≤ wt (os.take k)) ∧ Hid (Own w wr g s)) (fun _ ix _ _ => len1 - (intOf ix).toNat)
    case atStart => exact ⟨0, 0, ⟨[], [], a0, false⟩, rfl, rfl, by omega, by omega, .inl ⟨rfl, by show ((0 : Nat) : Int) + a0 = a0; omega, b0.1⟩, Nat.zero_le _, j4⟩
    case round =>
      obtain ⟨k, d, s, rfl, rfl, hk, hd, HZ, HS, HO⟩ := hrel
      by_cases hlt : k < len1
      · obtain ⟨o, ho⟩ : ∃ o, os[k]? = some o := ⟨os[k]'(by rw [hN]; exact hlt), List.getElem?_eq_getElem _⟩
        obtain ⟨ad, A, c, rfl, hcl⟩ := HC.out.2.2.2 k o ho
        have HCL := Lib.hid (hcl.below HO.out.bel)
        have c0 := HCL.out.c0
        have d3 : (k : Int) < (len1 : Int) := by omega
        clear hcl
        have hol : o.body.length ≤ 200000 := by
          have h1 := wt_take ho
          have h2 := wt_le (os := os) (k + 1)
          have h3 := HW.out
          omega
        have hm1 : len1 ≤ 9223372036854775807 := by have h1 := HC.out.2.1; have h2 := HC.out.2.2.1; unfold maxLen at h2; omega
        have HWT := Lib.hid (wt_take ho)
        have hz : Jm.size s ≤ 200000 := Nat.le_trans HS.out (by have h2 := wt_le (os := os) k; have h3 := HW.out; omega)
        have HK1 := Lib.hid (fun (W : World) (q : Below wr.heap.size wr W) => (q.cell (p := ⟨(ad.add (k * 4)).block, (ad.add (k * 4)).off + 1, none⟩) (by have := HO.out.bel.size; have := HCL.out.blk; dsimp only; rw [addr_add_block]; omega)).trans HCL.out.c1)
        have HK2 := Lib.hid (fun (W : World) (q : Below wr.heap.size wr W) => (q.cell (p := ⟨(ad.add (k * 4)).block, (ad.add (k * 4)).off + 2, none⟩) (by have := HO.out.bel.size; have := HCL.out.blk; dsimp only; rw [addr_add_block]; omega)).trans HCL.out.c2)
        have HAP := Lib.hid (fun (W : World) (q : Below wr.heap.size wr W) => append_own (HO.out.below q) HT.out o.kind A o.body.length c w.heap.size o.body HCL.out.k (HCL.out.rd.below (q.mono HO.out.bel.size)) rfl HCL.out.lc HCL.out.cm (Nat.le_trans HO.out.bel.size q.size) HCL.out.by_ (by omega))
        have HSY := Lib.hid (sync_own HO.out (by omega))
        have HEF := Lib.hid (effect_own HO.out)
        clear ho
        by_cases r0 : (bits BinOp.and IntKind.i64 o.what 3 == 0) = true
        · skip
          by_cases hm : 8192 < o.body.length
          · rw [Jm.append_many hm] at HAP
            dsimp only at HAP
            go_wp2_with fail
            refine region_F (fun W => Below wr.heap.size wr W) (fun j => j == 11) (by kernel_rfl) ?_
            have hC : Below wr.heap.size wr wr.drew := (Below.refl _ _).drew
            refine anyP_take (i := 0) (v := ?v0_1) (a' := ?a0_1) rfl (by kernel_rfl) (by kernel_rfl) (by kernel_rfl) (fun _ _ _ h => h) (by first | exact .inl hC | exact .inr (by kernel_rfl)) (by kernel_rfl) ?w0_1 ?y0_1 ?f0_1 ?r0_1
            case w0_1 => kernel_rfl
            case y0_1 => (intro w hC; go_simp; try with_reducible rfl)
            case f0_1 => (go_simp; try with_reducible rfl)
            refine anyP_take (i := 1) (v := ?v1_2) (a' := ?a1_2) rfl (by kernel_rfl) (by kernel_rfl) (by kernel_rfl) (fun _ _ _ h => h) (by first | exact .inl hC | exact .inr (by kernel_rfl)) (by kernel_rfl) ?w1_2 ?y1_2 ?f1_2 ?r1_2
            case w1_2 => kernel_rfl
            case y1_2 => (intro w hC; go_simp; try with_reducible rfl)
            case f1_2 => (go_simp; try with_reducible rfl)
            refine anyP_take (i := 2) (v := ?v2_3) (a' := ?a2_3) rfl (by kernel_rfl) (by kernel_rfl) (by kernel_rfl) (fun _ _ _ h => h) (by first | exact .inl hC | exact .inr (by kernel_rfl)) (by kernel_rfl) ?w2_3 ?y2_3 ?f2_3 ?r2_3
            case w2_3 => kernel_rfl
            case y2_3 => (intro w hC; go_simp; try with_reducible rfl)
            case f2_3 => (go_simp; try with_reducible rfl)
            refine anyP_take (i := 3) (v := ?v3_4) (a' := ?a3_4) rfl (by kernel_rfl) (by kernel_rfl) (by kernel_rfl) (fun _ _ _ h => h) (by first | exact .inl hC | exact .inr (by kernel_rfl)) (by kernel_rfl) ?w3_4 ?y3_4 ?f3_4 ?r3_4
            case w3_4 => kernel_rfl
            case y3_4 => (intro w hC; go_simp; try with_reducible rfl)
            case f3_4 => (go_simp; try with_reducible rfl)
            refine anyP_take (i := 4) (v := ?v4_5) (a' := ?a4_5) rfl (by kernel_rfl) (by kernel_rfl) (by kernel_rfl) (fun _ _ _ h => h) (by first | exact .inl hC | exact .inr (by kernel_rfl)) (by kernel_rfl) ?w4_5 ?y4_5 ?f4_5 ?r4_5
            case w4_5 => kernel_rfl
            case y4_5 => (intro w hC; go_simp; try with_reducible rfl)
            case f4_5 => (go_simp; try with_reducible rfl)
            refine anyP_take (i := 6) (v := ?v6_6) (a' := ?a6_6) rfl (by kernel_rfl) (by kernel_rfl) (by kernel_rfl) (fun _ _ _ h => h) (by first | exact .inl hC | exact .inr (by kernel_rfl)) (by kernel_rfl) ?w6_6 ?y6_6 ?f6_6 ?r6_6
            case w6_6 => kernel_rfl
            case y6_6 => (intro w hC; go_simp; try with_reducible rfl)
            case f6_6 => (go_simp; try with_reducible rfl)
            refine anyP_take (i := 7) (v := ?v7_7) (a' := ?a7_7) rfl (by kernel_rfl) (by kernel_rfl) (by kernel_rfl) (fun _ _ _ h => h) (by first | exact .inl hC | exact .inr (by kernel_rfl)) (by kernel_rfl) ?w7_7 ?y7_7 ?f7_7 ?r7_7
            case w7_7 => kernel_rfl
            case y7_7 => (intro w hC; go_simp; try with_reducible rfl)
            case f7_7 => (go_simp; try with_reducible rfl)
            refine anyP_take (i := 8) (v := ?v8_8) (a' := ?a8_8) rfl (by kernel_rfl) (by kernel_rfl) (by kernel_rfl) (fun _ _ _ h => h) (by first | exact .inl hC | exact .inr (by kernel_rfl)) (by kernel_rfl) ?w8_8 ?y8_8 ?f8_8 ?r8_8
            case w8_8 => kernel_rfl
            case y8_8 => (intro w hC; go_simp; try with_reducible rfl)
            case f8_8 => (go_simp; try with_reducible rfl)
            refine anyP_take (i := 9) (v := ?v9_9) (a' := ?a9_9) rfl (by kernel_rfl) (by kernel_rfl) (by kernel_rfl) (fun _ _ _ h => h) (by first | exact .inl hC | exact .inr (by kernel_rfl)) (by kernel_rfl) ?w9_9 ?y9_9 ?f9_9 ?r9_9
            case w9_9 => kernel_rfl
            case y9_9 => (intro w hC; go_simp; try with_reducible rfl)
            case f9_9 => (go_simp; try with_reducible rfl)
            refine anyF_take (i := 5) (v := ?v5_10) (a' := ?a5_10) rfl (by kernel_rfl) (by kernel_rfl) (by kernel_rfl) (fun _ _ _ h => h) hC (by kernel_rfl) ?w5_10 ?y5_10 ?f5_10 ?r5_10
            case w5_10 => kernel_rfl
            case y5_10 => (intro w hC; have h4 := HK1.out w hC; go_simp; try with_reducible rfl)
            case f5_10 => (go_simp; try with_reducible rfl)
            refine anyF_take (i := 10) (v := ?v10_11) (a' := ?a10_11) rfl (by kernel_rfl) (by kernel_rfl) (by kernel_rfl) (fun _ _ _ h => h) hC (by kernel_rfl) ?w10_11 ?y10_11 ?f10_11 ?r10_11
            case w10_11 => kernel_rfl
            case y10_11 => (intro w hC; have h4 := HK2.out w hC; go_simp; try with_reducible rfl)
            case f10_11 => (go_simp; try with_reducible rfl)
            refine anyF_one (i := 11) rfl (by kernel_rfl) (by kernel_rfl) (fun K hK => ?_)
            go_simp
            refine (HAP.out _ hC).mono ?_
            rintro e w5 ⟨rfl, j5⟩
            have HO5 := Lib.hid j5
            refine hK _ _ ⟨.inr (by kernel_rfl), ?_⟩
            clear hK K j5 c0
            refine anyP_take (i := 12) (v := ?v12_12) (a' := ?a12_12) rfl (by kernel_rfl) (by kernel_rfl) (by kernel_rfl) (fun _ _ _ h => h) (by first | exact .inl hC | exact .inr (by kernel_rfl)) (by kernel_rfl) ?w12_12 ?y12_12 ?f12_12 ?r12_12
            case w12_12 => kernel_rfl
            case y12_12 => (intro w hC; go_simp; try with_reducible rfl)
            case f12_12 => (go_simp; try with_reducible rfl)
            refine anyF_done (by kernel_rfl) ?_
            go_wp2
            go_roundw
            case rel => exact ⟨k + 1, d, s, by go_num, rfl, by omega, by omega, HZ, Lib.hid (Nat.le_trans HS.out (by rw [HWT.out]; omega)), HO5⟩
            case measure => simp [intOf]; omega

          · have hmm := hm
            have HST0 := Lib.hid (HZ.out.app (k := o.kind) hm)
            have HS50 : Hid (Jm.size (Jm.append s o.kind o.body).1 ≤ Jm.size s + 8 + o.body.length) := (Jm.size_append s o.kind o.body).1
            obtain ⟨⟨s5, er⟩, hr5⟩ : ∃ r5, Jm.append s o.kind o.body = r5 := ⟨_, rfl⟩
            rw [hr5] at HAP HST0 HS50
            dsimp only at HAP HST0 HS50
            clear hr5
            go_wp2_with fail
            refine region_F (fun W => Below wr.heap.size wr W) (fun j => j == 11) (by kernel_rfl) ?_
            have hC : Below wr.heap.size wr wr.drew := (Below.refl _ _).drew
            refine anyP_take (i := 0) (v := ?v0_13) (a' := ?a0_13) rfl (by kernel_rfl) (by kernel_rfl) (by kernel_rfl) (fun _ _ _ h => h) (by first | exact .inl hC | exact .inr (by kernel_rfl)) (by kernel_rfl) ?w0_13 ?y0_13 ?f0_13 ?r0_13
            case w0_13 => kernel_rfl
            case y0_13 => (intro w hC; go_simp; try with_reducible rfl)
            case f0_13 => (go_simp; try with_reducible rfl)
            refine anyP_take (i := 1) (v := ?v1_14) (a' := ?a1_14) rfl (by kernel_rfl) (by kernel_rfl) (by kernel_rfl) (fun _ _ _ h => h) (by first | exact .inl hC | exact .inr (by kernel_rfl)) (by kernel_rfl) ?w1_14 ?y1_14 ?f1_14 ?r1_14
            case w1_14 => kernel_rfl
            case y1_14 => (intro w hC; go_simp; try with_reducible rfl)
            case f1_14 => (go_simp; try with_reducible rfl)
            refine anyP_take (i := 2) (v := ?v2_15) (a' := ?a2_15) rfl (by kernel_rfl) (by kernel_rfl) (by kernel_rfl) (fun _ _ _ h => h) (by first | exact .inl hC | exact .inr (by kernel_rfl)) (by kernel_rfl) ?w2_15 ?y2_15 ?f2_15 ?r2_15
            case w2_15 => kernel_rfl
            case y2_15 => (intro w hC; go_simp; try with_reducible rfl)
            case f2_15 => (go_simp; try with_reducible rfl)
            refine anyP_take (i := 3) (v := ?v3_16) (a' := ?a3_16) rfl (by kernel_rfl) (by kernel_rfl) (by kernel_rfl) (fun _ _ _ h => h) (by first | exact .inl hC | exact .inr (by kernel_rfl)) (by kernel_rfl) ?w3_16 ?y3_16 ?f3_16 ?r3_16
            case w3_16 => kernel_rfl
            case y3_16 => (intro w hC; go_simp; try with_reducible rfl)
            case f3_16 => (go_simp; try with_reducible rfl)
            refine anyP_take (i := 4) (v := ?v4_17) (a' := ?a4_17) rfl (by kernel_rfl) (by kernel_rfl) (by kernel_rfl) (fun _ _ _ h => h) (by first | exact .inl hC | exact .inr (by kernel_rfl)) (by kernel_rfl) ?w4_17 ?y4_17 ?f4_17 ?r4_17
            case w4_17 => kernel_rfl
            case y4_17 => (intro w hC; go_simp; try with_reducible rfl)
            case f4_17 => (go_simp; try with_reducible rfl)
            refine anyP_take (i := 6) (v := ?v6_18) (a' := ?a6_18) rfl (by kernel_rfl) (by kernel_rfl) (by kernel_rfl) (fun _ _ _ h => h) (by first | exact .inl hC | exact .inr (by kernel_rfl)) (by kernel_rfl) ?w6_18 ?y6_18 ?f6_18 ?r6_18
            case w6_18 => kernel_rfl
            case y6_18 => (intro w hC; go_simp; try with_reducible rfl)
            case f6_18 => (go_simp; try with_reducible rfl)
            refine anyP_take (i := 7) (v := ?v7_19) (a' := ?a7_19) rfl (by kernel_rfl) (by kernel_rfl) (by kernel_rfl) (fun _ _ _ h => h) (by first | exact .inl hC | exact .inr (by kernel_rfl)) (by kernel_rfl) ?w7_19 ?y7_19 ?f7_19 ?r7_19
            case w7_19 => kernel_rfl
            case y7_19 => (intro w hC; go_simp; try with_reducible rfl)
            case f7_19 => (go_simp; try with_reducible rfl)
            refine anyP_take (i := 8) (v := ?v8_20) (a' := ?a8_20) rfl (by kernel_rfl) (by kernel_rfl) (by kernel_rfl) (fun _ _ _ h => h) (by first | exact .inl hC | exact .inr (by kernel_rfl)) (by kernel_rfl) ?w8_20 ?y8_20 ?f8_20 ?r8_20
            case w8_20 => kernel_rfl
            case y8_20 => (intro w hC; go_simp; try with_reducible rfl)
            case f8_20 => (go_simp; try with_reducible rfl)
            refine anyP_take (i := 9) (v := ?v9_21) (a' := ?a9_21) rfl (by kernel_rfl) (by kernel_rfl) (by kernel_rfl) (fun _ _ _ h => h) (by first | exact .inl hC | exact .inr (by kernel_rfl)) (by kernel_rfl) ?w9_21 ?y9_21 ?f9_21 ?r9_21
            case w9_21 => kernel_rfl
            case y9_21 => (intro w hC; go_simp; try with_reducible rfl)
            case f9_21 => (go_simp; try with_reducible rfl)
            refine anyF_take (i := 5) (v := ?v5_22) (a' := ?a5_22) rfl (by kernel_rfl) (by kernel_rfl) (by kernel_rfl) (fun _ _ _ h => h) hC (by kernel_rfl) ?w5_22 ?y5_22 ?f5_22 ?r5_22
            case w5_22 => kernel_rfl
            case y5_22 => (intro w hC; have h4 := HK1.out w hC; go_simp; try with_reducible rfl)
            case f5_22 => (go_simp; try with_reducible rfl)
            refine anyF_take (i := 10) (v := ?v10_23) (a' := ?a10_23) rfl (by kernel_rfl) (by kernel_rfl) (by kernel_rfl) (fun _ _ _ h => h) hC (by kernel_rfl) ?w10_23 ?y10_23 ?f10_23 ?r10_23
            case w10_23 => kernel_rfl
            case y10_23 => (intro w hC; have h4 := HK2.out w hC; go_simp; try with_reducible rfl)
            case f10_23 => (go_simp; try with_reducible rfl)
            refine anyF_one (i := 11) rfl (by kernel_rfl) (by kernel_rfl) (fun K hK => ?_)
            go_simp
            refine (HAP.out _ hC).mono ?_
            rintro e w5 ⟨rfl, j5⟩
            have HO5 := Lib.hid j5
            refine hK _ _ ⟨.inr (by kernel_rfl), ?_⟩
            clear hK K j5 c0
            refine anyP_take (i := 12) (v := ?v12_24) (a' := ?a12_24) rfl (by kernel_rfl) (by kernel_rfl) (by kernel_rfl) (fun _ _ _ h => h) (by first | exact .inl hC | exact .inr (by kernel_rfl)) (by kernel_rfl) ?w12_24 ?y12_24 ?f12_24 ?r12_24
            case w12_24 => kernel_rfl
            case y12_24 => (intro w hC; go_simp; try with_reducible rfl)
            case f12_24 => (go_simp; try with_reducible rfl)
            refine anyF_done (by kernel_rfl) ?_
            have HDN := Lib.hid (down_own HO5.out)
            rcases HST0.out with ⟨h1, h2, h3, h4⟩ | ⟨h1, h2, h3, h4⟩
            · try dsimp only at h1 h2 h3
              subst h1
              have HZ5 := Lib.hid h2
              rw [h3] at HDN
              have q2 : decide (a0 < (d : Int) + 1) = false := by simp; omega
              clear h2 h3
              by_cases hq : (d : Int) + 1 = a0
              · have q1 : ((d : Int) + 1 == a0) = true := by rw [beq_iff_eq]; exact hq
                clear hq
                go_wp2_with (go_at_call 25; refine HDN.out.mono ?_; rintro e w6 ⟨rfl, rfl⟩)
                go_roundw
                case rel => exact ⟨k + 1, d + 1, s5, by go_num, by go_num, by omega, by omega, HZ5, Lib.hid (Nat.le_trans HS50.out (by have := HS.out; rw [HWT.out]; omega)), HO5⟩
                case measure => simp [intOf]; omega
              · have q1 : ((d : Int) + 1 == a0) = false := by rw [beq_eq_false_iff_ne]; exact hq
                clear hq
                go_wp2
                go_roundw
                case rel => exact ⟨k + 1, d + 1, s5, by go_num, by go_num, by omega, by omega, HZ5, Lib.hid (Nat.le_trans HS50.out (by have := HS.out; rw [HWT.out]; omega)), HO5⟩
                case measure => simp [intOf]; omega
            · try dsimp only at h1 h2 h3
              subst h1
              have HZ5 := Lib.hid h2
              rw [h3] at HDN
              have q2 : decide (a0 < (d : Int)) = false := by simp; omega
              have q1 : ((d : Int) == a0) = true := by rw [beq_iff_eq]; exact h4
              have h4' : (d : Int) ≤ a0 := by omega
              clear h2 h3 h4
              go_wp2_with (go_at_call 25; refine HDN.out.mono ?_; rintro e w6 ⟨rfl, rfl⟩)
              go_roundw
              case rel => exact ⟨k + 1, d, s5, by go_num, rfl, by omega, h4', HZ5, Lib.hid (Nat.le_trans HS50.out (by have := HS.out; rw [HWT.out]; omega)), HO5⟩
              case measure => simp [intOf]; omega
        have r0' : (bits BinOp.and IntKind.i64 o.what 3 == 0) = false := by simpa using r0
        clear r0
        by_cases r1 : (bits BinOp.and IntKind.i64 o.what 3 == 1) = true
        · skip
          by_cases hm : 8192 < o.body.length
          · rw [Jm.append_many hm] at HAP
            dsimp only at HAP
            go_wp2_with fail
            refine region_F (fun W => Below wr.heap.size wr W) (fun j => j == 11) (by kernel_rfl) ?_
            have hC : Below wr.heap.size wr wr.drew := (Below.refl _ _).drew
            refine anyP_take (i := 0) (v := ?v0_25) (a' := ?a0_25) rfl (by kernel_rfl) (by kernel_rfl) (by kernel_rfl) (fun _ _ _ h => h) (by first | exact .inl hC | exact .inr (by kernel_rfl)) (by kernel_rfl) ?w0_25 ?y0_25 ?f0_25 ?r0_25
            case w0_25 => kernel_rfl
            case y0_25 => (intro w hC; go_simp; try with_reducible rfl)
            case f0_25 => (go_simp; try with_reducible rfl)
            refine anyP_take (i := 1) (v := ?v1_26) (a' := ?a1_26) rfl (by kernel_rfl) (by kernel_rfl) (by kernel_rfl) (fun _ _ _ h => h) (by first | exact .inl hC | exact .inr (by kernel_rfl)) (by kernel_rfl) ?w1_26 ?y1_26 ?f1_26 ?r1_26
            case w1_26 => kernel_rfl
            case y1_26 => (intro w hC; go_simp; try with_reducible rfl)
            case f1_26 => (go_simp; try with_reducible rfl)
            refine anyP_take (i := 2) (v := ?v2_27) (a' := ?a2_27) rfl (by kernel_rfl) (by kernel_rfl) (by kernel_rfl) (fun _ _ _ h => h) (by first | exact .inl hC | exact .inr (by kernel_rfl)) (by kernel_rfl) ?w2_27 ?y2_27 ?f2_27 ?r2_27
            case w2_27 => kernel_rfl
            case y2_27 => (intro w hC; go_simp; try with_reducible rfl)
            case f2_27 => (go_simp; try with_reducible rfl)
            refine anyP_take (i := 3) (v := ?v3_28) (a' := ?a3_28) rfl (by kernel_rfl) (by kernel_rfl) (by kernel_rfl) (fun _ _ _ h => h) (by first | exact .inl hC | exact .inr (by kernel_rfl)) (by kernel_rfl) ?w3_28 ?y3_28 ?f3_28 ?r3_28
            case w3_28 => kernel_rfl
            case y3_28 => (intro w hC; go_simp; try with_reducible rfl)
            case f3_28 => (go_simp; try with_reducible rfl)
            refine anyP_take (i := 4) (v := ?v4_29) (a' := ?a4_29) rfl (by kernel_rfl) (by kernel_rfl) (by kernel_rfl) (fun _ _ _ h => h) (by first | exact .inl hC | exact .inr (by kernel_rfl)) (by kernel_rfl) ?w4_29 ?y4_29 ?f4_29 ?r4_29
            case w4_29 => kernel_rfl
            case y4_29 => (intro w hC; go_simp; try with_reducible rfl)
            case f4_29 => (go_simp; try with_reducible rfl)
            refine anyP_take (i := 6) (v := ?v6_30) (a' := ?a6_30) rfl (by kernel_rfl) (by kernel_rfl) (by kernel_rfl) (fun _ _ _ h => h) (by first | exact .inl hC | exact .inr (by kernel_rfl)) (by kernel_rfl) ?w6_30 ?y6_30 ?f6_30 ?r6_30
            case w6_30 => kernel_rfl
            case y6_30 => (intro w hC; go_simp; try with_reducible rfl)
            case f6_30 => (go_simp; try with_reducible rfl)
            refine anyP_take (i := 7) (v := ?v7_31) (a' := ?a7_31) rfl (by kernel_rfl) (by kernel_rfl) (by kernel_rfl) (fun _ _ _ h => h) (by first | exact .inl hC | exact .inr (by kernel_rfl)) (by kernel_rfl) ?w7_31 ?y7_31 ?f7_31 ?r7_31
            case w7_31 => kernel_rfl
            case y7_31 => (intro w hC; go_simp; try with_reducible rfl)
            case f7_31 => (go_simp; try with_reducible rfl)
            refine anyP_take (i := 8) (v := ?v8_32) (a' := ?a8_32) rfl (by kernel_rfl) (by kernel_rfl) (by kernel_rfl) (fun _ _ _ h => h) (by first | exact .inl hC | exact .inr (by kernel_rfl)) (by kernel_rfl) ?w8_32 ?y8_32 ?f8_32 ?r8_32
            case w8_32 => kernel_rfl
            case y8_32 => (intro w hC; go_simp; try with_reducible rfl)
            case f8_32 => (go_simp; try with_reducible rfl)
            refine anyP_take (i := 9) (v := ?v9_33) (a' := ?a9_33) rfl (by kernel_rfl) (by kernel_rfl) (by kernel_rfl) (fun _ _ _ h => h) (by first | exact .inl hC | exact .inr (by kernel_rfl)) (by kernel_rfl) ?w9_33 ?y9_33 ?f9_33 ?r9_33
            case w9_33 => kernel_rfl
            case y9_33 => (intro w hC; go_simp; try with_reducible rfl)
            case f9_33 => (go_simp; try with_reducible rfl)
            refine anyF_take (i := 5) (v := ?v5_34) (a' := ?a5_34) rfl (by kernel_rfl) (by kernel_rfl) (by kernel_rfl) (fun _ _ _ h => h) hC (by kernel_rfl) ?w5_34 ?y5_34 ?f5_34 ?r5_34
            case w5_34 => kernel_rfl
            case y5_34 => (intro w hC; have h4 := HK1.out w hC; go_simp; try with_reducible rfl)
            case f5_34 => (go_simp; try with_reducible rfl)
            refine anyF_take (i := 10) (v := ?v10_35) (a' := ?a10_35) rfl (by kernel_rfl) (by kernel_rfl) (by kernel_rfl) (fun _ _ _ h => h) hC (by kernel_rfl) ?w10_35 ?y10_35 ?f10_35 ?r10_35
            case w10_35 => kernel_rfl
            case y10_35 => (intro w hC; have h4 := HK2.out w hC; go_simp; try with_reducible rfl)
            case f10_35 => (go_simp; try with_reducible rfl)
            refine anyF_one (i := 11) rfl (by kernel_rfl) (by kernel_rfl) (fun K hK => ?_)
            go_simp
            refine (HAP.out _ hC).mono ?_
            rintro e w5 ⟨rfl, j5⟩
            have HO5 := Lib.hid j5
            refine hK _ _ ⟨.inr (by kernel_rfl), ?_⟩
            clear hK K j5 c0
            refine anyP_take (i := 12) (v := ?v12_36) (a' := ?a12_36) rfl (by kernel_rfl) (by kernel_rfl) (by kernel_rfl) (fun _ _ _ h => h) (by first | exact .inl hC | exact .inr (by kernel_rfl)) (by kernel_rfl) ?w12_36 ?y12_36 ?f12_36 ?r12_36
            case w12_36 => kernel_rfl
            case y12_36 => (intro w hC; go_simp; try with_reducible rfl)
            case f12_36 => (go_simp; try with_reducible rfl)
            refine anyF_done (by kernel_rfl) ?_
            go_wp2
            go_roundw
            case rel => exact ⟨k + 1, d, s, by go_num, rfl, by omega, by omega, HZ, Lib.hid (Nat.le_trans HS.out (by rw [HWT.out]; omega)), HO5⟩
            case measure => simp [intOf]; omega

          · have hmm := hm
            have HST0 := Lib.hid (HZ.out.app (k := o.kind) hm)
            have HS50 : Hid (Jm.size (Jm.append s o.kind o.body).1 ≤ Jm.size s + 8 + o.body.length) := (Jm.size_append s o.kind o.body).1
            obtain ⟨⟨s5, er⟩, hr5⟩ : ∃ r5, Jm.append s o.kind o.body = r5 := ⟨_, rfl⟩
            rw [hr5] at HAP HST0 HS50
            dsimp only at HAP HST0 HS50
            clear hr5
            go_wp2_with fail
            refine region_F (fun W => Below wr.heap.size wr W) (fun j => j == 11) (by kernel_rfl) ?_
            have hC : Below wr.heap.size wr wr.drew := (Below.refl _ _).drew
            refine anyP_take (i := 0) (v := ?v0_37) (a' := ?a0_37) rfl (by kernel_rfl) (by kernel_rfl) (by kernel_rfl) (fun _ _ _ h => h) (by first | exact .inl hC | exact .inr (by kernel_rfl)) (by kernel_rfl) ?w0_37 ?y0_37 ?f0_37 ?r0_37
            case w0_37 => kernel_rfl
            case y0_37 => (intro w hC; go_simp; try with_reducible rfl)
            case f0_37 => (go_simp; try with_reducible rfl)
            refine anyP_take (i := 1) (v := ?v1_38) (a' := ?a1_38) rfl (by kernel_rfl) (by kernel_rfl) (by kernel_rfl) (fun _ _ _ h => h) (by first | exact .inl hC | exact .inr (by kernel_rfl)) (by kernel_rfl) ?w1_38 ?y1_38 ?f1_38 ?r1_38
            case w1_38 => kernel_rfl
            case y1_38 => (intro w hC; go_simp; try with_reducible rfl)
            case f1_38 => (go_simp; try with_reducible rfl)
            refine anyP_take (i := 2) (v := ?v2_39) (a' := ?a2_39) rfl (by kernel_rfl) (by kernel_rfl) (by kernel_rfl) (fun _ _ _ h => h) (by first | exact .inl hC | exact .inr (by kernel_rfl)) (by kernel_rfl) ?w2_39 ?y2_39 ?f2_39 ?r2_39
            case w2_39 => kernel_rfl
            case y2_39 => (intro w hC; go_simp; try with_reducible rfl)
            case f2_39 => (go_simp; try with_reducible rfl)
            refine anyP_take (i := 3) (v := ?v3_40) (a' := ?a3_40) rfl (by kernel_rfl) (by kernel_rfl) (by kernel_rfl) (fun _ _ _ h => h) (by first | exact .inl hC | exact .inr (by kernel_rfl)) (by kernel_rfl) ?w3_40 ?y3_40 ?f3_40 ?r3_40
            case w3_40 => kernel_rfl
            case y3_40 => (intro w hC; go_simp; try with_reducible rfl)
            case f3_40 => (go_simp; try with_reducible rfl)
            refine anyP_take (i := 4) (v := ?v4_41) (a' := ?a4_41) rfl (by kernel_rfl) (by kernel_rfl) (by kernel_rfl) (fun _ _ _ h => h) (by first | exact .inl hC | exact .inr (by kernel_rfl)) (by kernel_rfl) ?w4_41 ?y4_41 ?f4_41 ?r4_41
            case w4_41 => kernel_rfl
            case y4_41 => (intro w hC; go_simp; try with_reducible rfl)
            case f4_41 => (go_simp; try with_reducible rfl)
            refine anyP_take (i := 6) (v := ?v6_42) (a' := ?a6_42) rfl (by kernel_rfl) (by kernel_rfl) (by kernel_rfl) (fun _ _ _ h => h) (by first | exact .inl hC | exact .inr (by kernel_rfl)) (by kernel_rfl) ?w6_42 ?y6_42 ?f6_42 ?r6_42
            case w6_42 => kernel_rfl
            case y6_42 => (intro w hC; go_simp; try with_reducible rfl)
            case f6_42 => (go_simp; try with_reducible rfl)
            refine anyP_take (i := 7) (v := ?v7_43) (a' := ?a7_43) rfl (by kernel_rfl) (by kernel_rfl) (by kernel_rfl) (fun _ _ _ h => h) (by first | exact .inl hC | exact .inr (by kernel_rfl)) (by kernel_rfl) ?w7_43 ?y7_43 ?f7_43 ?r7_43
            case w7_43 => kernel_rfl
            case y7_43 => (intro w hC; go_simp; try with_reducible rfl)
            case f7_43 => (go_simp; try with_reducible rfl)
            refine anyP_take (i := 8) (v := ?v8_44) (a' := ?a8_44) rfl (by kernel_rfl) (by kernel_rfl) (by kernel_rfl) (fun _ _ _ h => h) (by first | exact .inl hC | exact .inr (by kernel_rfl)) (by kernel_rfl) ?w8_44 ?y8_44 ?f8_44 ?r8_44
            case w8_44 => kernel_rfl
            case y8_44 => (intro w hC; go_simp; try with_reducible rfl)
            case f8_44 => (go_simp; try with_reducible rfl)
            refine anyP_take (i := 9) (v := ?v9_45) (a' := ?a9_45) rfl (by kernel_rfl) (by kernel_rfl) (by kernel_rfl) (fun _ _ _ h => h) (by first | exact .inl hC | exact .inr (by kernel_rfl)) (by kernel_rfl) ?w9_45 ?y9_45 ?f9_45 ?r9_45
            case w9_45 => kernel_rfl
            case y9_45 => (intro w hC; go_simp; try with_reducible rfl)
            case f9_45 => (go_simp; try with_reducible rfl)
            refine anyF_take (i := 5) (v := ?v5_46) (a' := ?a5_46) rfl (by kernel_rfl) (by kernel_rfl) (by kernel_rfl) (fun _ _ _ h => h) hC (by kernel_rfl) ?w5_46 ?y5_46 ?f5_46 ?r5_46
            case w5_46 => kernel_rfl
            case y5_46 => (intro w hC; have h4 := HK1.out w hC; go_simp; try with_reducible rfl)
            case f5_46 => (go_simp; try with_reducible rfl)
            refine anyF_take (i := 10) (v := ?v10_47) (a' := ?a10_47) rfl (by kernel_rfl) (by kernel_rfl) (by kernel_rfl) (fun _ _ _ h => h) hC (by kernel_rfl) ?w10_47 ?y10_47 ?f10_47 ?r10_47
            case w10_47 => kernel_rfl
            case y10_47 => (intro w hC; have h4 := HK2.out w hC; go_simp; try with_reducible rfl)
            case f10_47 => (go_simp; try with_reducible rfl)
            refine anyF_one (i := 11) rfl (by kernel_rfl) (by kernel_rfl) (fun K hK => ?_)
            go_simp
            refine (HAP.out _ hC).mono ?_
            rintro e w5 ⟨rfl, j5⟩
            have HO5 := Lib.hid j5
            refine hK _ _ ⟨.inr (by kernel_rfl), ?_⟩
            clear hK K j5 c0
            refine anyP_take (i := 12) (v := ?v12_48) (a' := ?a12_48) rfl (by kernel_rfl) (by kernel_rfl) (by kernel_rfl) (fun _ _ _ h => h) (by first | exact .inl hC | exact .inr (by kernel_rfl)) (by kernel_rfl) ?w12_48 ?y12_48 ?f12_48 ?r12_48
            case w12_48 => kernel_rfl
            case y12_48 => (intro w hC; go_simp; try with_reducible rfl)
            case f12_48 => (go_simp; try with_reducible rfl)
            refine anyF_done (by kernel_rfl) ?_
            have HDN := Lib.hid (down_own HO5.out)
            rcases HST0.out with ⟨h1, h2, h3, h4⟩ | ⟨h1, h2, h3, h4⟩
            · try dsimp only at h1 h2 h3
              subst h1
              have HZ5 := Lib.hid h2
              rw [h3] at HDN
              have q2 : decide (a0 < (d : Int) + 1) = false := by simp; omega
              clear h2 h3
              by_cases hq : (d : Int) + 1 = a0
              · have q1 : ((d : Int) + 1 == a0) = true := by rw [beq_iff_eq]; exact hq
                clear hq
                go_wp2_with (go_at_call 25; refine HDN.out.mono ?_; rintro e w6 ⟨rfl, rfl⟩)
                go_roundw
                case rel => exact ⟨k + 1, d + 1, s5, by go_num, by go_num, by omega, by omega, HZ5, Lib.hid (Nat.le_trans HS50.out (by have := HS.out; rw [HWT.out]; omega)), HO5⟩
                case measure => simp [intOf]; omega
              · have q1 : ((d : Int) + 1 == a0) = false := by rw [beq_eq_false_iff_ne]; exact hq
                clear hq
                go_wp2
                go_roundw
                case rel => exact ⟨k + 1, d + 1, s5, by go_num, by go_num, by omega, by omega, HZ5, Lib.hid (Nat.le_trans HS50.out (by have := HS.out; rw [HWT.out]; omega)), HO5⟩
                case measure => simp [intOf]; omega
            · try dsimp only at h1 h2 h3
              subst h1
              have HZ5 := Lib.hid h2
              rw [h3] at HDN
              have q2 : decide (a0 < (d : Int)) = false := by simp; omega
              have q1 : ((d : Int) == a0) = true := by rw [beq_iff_eq]; exact h4
              have h4' : (d : Int) ≤ a0 := by omega
              clear h2 h3 h4
              go_wp2_with (go_at_call 25; refine HDN.out.mono ?_; rintro e w6 ⟨rfl, rfl⟩)
              go_roundw
              case rel => exact ⟨k + 1, d, s5, by go_num, rfl, by omega, h4', HZ5, Lib.hid (Nat.le_trans HS50.out (by have := HS.out; rw [HWT.out]; omega)), HO5⟩
              case measure => simp [intOf]; omega
        have r1' : (bits BinOp.and IntKind.i64 o.what 3 == 1) = false := by simpa using r1
        clear r1
        by_cases r2 : (bits BinOp.and IntKind.i64 o.what 3 == 2) = true
        · skip
          have HST0 := Lib.hid (HZ.out.sync)
          have HS50 : Hid (Jm.size (Jm.sync s).1 ≤ Jm.size s + 8 + o.body.length) := (by show _ ≤ _; rw [Jm.size_sync]; omega)
          obtain ⟨⟨s5, er⟩, hr5⟩ : ∃ r5, Jm.sync s = r5 := ⟨_, rfl⟩
          rw [hr5] at HSY HST0 HS50
          dsimp only at HSY HST0 HS50
          clear hr5
          go_wp2_with (go_at_call 14; fail)
          refine HSY.out.mono ?_
          rintro e w5 ⟨rfl, j5⟩
          have HO5 := Lib.hid j5
          clear j5 c0
          have HDN := Lib.hid (down_own HO5.out)
          rcases HST0.out with ⟨h1, h2, h3, h4⟩ | ⟨h1, h2, h3, h4⟩
          · try dsimp only at h1 h2 h3
            subst h1
            have HZ5 := Lib.hid h2
            rw [h3] at HDN
            have q2 : decide (a0 < (d : Int) + 1) = false := by simp; omega
            clear h2 h3
            by_cases hq : (d : Int) + 1 = a0
            · have q1 : ((d : Int) + 1 == a0) = true := by rw [beq_iff_eq]; exact hq
              clear hq
              go_wp2_with (go_at_call 25; refine HDN.out.mono ?_; rintro e w6 ⟨rfl, rfl⟩)
              go_roundw
              case rel => exact ⟨k + 1, d + 1, s5, by go_num, by go_num, by omega, by omega, HZ5, Lib.hid (Nat.le_trans HS50.out (by have := HS.out; rw [HWT.out]; omega)), HO5⟩
              case measure => simp [intOf]; omega
            · have q1 : ((d : Int) + 1 == a0) = false := by rw [beq_eq_false_iff_ne]; exact hq
              clear hq
              go_wp2
              go_roundw
              case rel => exact ⟨k + 1, d + 1, s5, by go_num, by go_num, by omega, by omega, HZ5, Lib.hid (Nat.le_trans HS50.out (by have := HS.out; rw [HWT.out]; omega)), HO5⟩
              case measure => simp [intOf]; omega
          · try dsimp only at h1 h2 h3
            subst h1
            have HZ5 := Lib.hid h2
            rw [h3] at HDN
            have q2 : decide (a0 < (d : Int)) = false := by simp; omega
            have q1 : ((d : Int) == a0) = true := by rw [beq_iff_eq]; exact h4
            have h4' : (d : Int) ≤ a0 := by omega
            clear h2 h3 h4
            go_wp2_with (go_at_call 25; refine HDN.out.mono ?_; rintro e w6 ⟨rfl, rfl⟩)
            go_roundw
            case rel => exact ⟨k + 1, d, s5, by go_num, rfl, by omega, h4', HZ5, Lib.hid (Nat.le_trans HS50.out (by have := HS.out; rw [HWT.out]; omega)), HO5⟩
            case measure => simp [intOf]; omega
        · have r2' : (bits BinOp.and IntKind.i64 o.what 3 == 2) = false := by simpa using r2
          clear r2
          have HST0 := Lib.hid (HZ.out.eff)
          have HS50 : Hid (Jm.size (Jm.eff s).1 ≤ Jm.size s + 8 + o.body.length) := (by show _ ≤ _; rw [Jm.size_eff]; omega)
          obtain ⟨⟨s5, er⟩, hr5⟩ : ∃ r5, Jm.eff s = r5 := ⟨_, rfl⟩
          rw [hr5] at HEF HST0 HS50
          dsimp only at HEF HST0 HS50
          clear hr5
          go_wp2_with (go_at_call 16; fail)
          refine HEF.out.mono ?_
          rintro e w5 ⟨rfl, j5⟩
          have HO5 := Lib.hid j5
          clear j5 c0
          have HDN := Lib.hid (down_own HO5.out)
          rcases HST0.out with ⟨h1, h2, h3, h4⟩ | ⟨h1, h2, h3, h4⟩
          · try dsimp only at h1 h2 h3
            subst h1
            have HZ5 := Lib.hid h2
            rw [h3] at HDN
            have q2 : decide (a0 < (d : Int) + 1) = false := by simp; omega
            clear h2 h3
            by_cases hq : (d : Int) + 1 = a0
            · have q1 : ((d : Int) + 1 == a0) = true := by rw [beq_iff_eq]; exact hq
              clear hq
              go_wp2_with (go_at_call 25; refine HDN.out.mono ?_; rintro e w6 ⟨rfl, rfl⟩)
              go_roundw
              case rel => exact ⟨k + 1, d + 1, s5, by go_num, by go_num, by omega, by omega, HZ5, Lib.hid (Nat.le_trans HS50.out (by have := HS.out; rw [HWT.out]; omega)), HO5⟩
              case measure => simp [intOf]; omega
            · have q1 : ((d : Int) + 1 == a0) = false := by rw [beq_eq_false_iff_ne]; exact hq
              clear hq
              go_wp2
              go_roundw
              case rel => exact ⟨k + 1, d + 1, s5, by go_num, by go_num, by omega, by omega, HZ5, Lib.hid (Nat.le_trans HS50.out (by have := HS.out; rw [HWT.out]; omega)), HO5⟩
              case measure => simp [intOf]; omega
          · try dsimp only at h1 h2 h3
            subst h1
            have HZ5 := Lib.hid h2
            rw [h3] at HDN
            have q2 : decide (a0 < (d : Int)) = false := by simp; omega
            have q1 : ((d : Int) == a0) = true := by rw [beq_iff_eq]; exact h4
            have h4' : (d : Int) ≤ a0 := by omega
            clear h2 h3 h4
            go_wp2_with (go_at_call 25; refine HDN.out.mono ?_; rintro e w6 ⟨rfl, rfl⟩)
            go_roundw
            case rel => exact ⟨k + 1, d, s5, by go_num, rfl, by omega, h4', HZ5, Lib.hid (Nat.le_trans HS50.out (by have := HS.out; rw [HWT.out]; omega)), HO5⟩
            case measure => simp [intOf]; omega
      · go_wp2
        go_ret
        exact ⟨rfl, HO.out.bel⟩
end Go.Proofs.YtgpagddaopgdgaaDoor
