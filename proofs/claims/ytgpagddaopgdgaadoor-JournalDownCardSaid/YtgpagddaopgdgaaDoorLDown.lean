/- JournalDown, walked. -/
import Derived.Test.YtgpagddaopgdgaaDoorJs
namespace Go.Proofs.YtgpagddaopgdgaaDoor
open Go.RowKit Go.Shelf Km

/-- the journal of this law: down, with one record -/
def dn : Jm.St := ⟨Fm.frm 1 [120], [], -1, true⟩
theorem dn_eff : Jm.eff dn = (dn, 61) := Jm.eff_off rfl
theorem dn_append (k : Int) (b : List Int) : (Jm.append dn k b).1 = dn ∧ ((Jm.append dn k b).2 = 2 ∨ (Jm.append dn k b).2 = 61) := by
  by_cases h : 8192 < b.length
  · rw [Jm.append_many h]; exact ⟨rfl, .inl rfl⟩
  · rw [Jm.append_err h (by rw [dn_eff]; decide), dn_eff]; exact ⟨rfl, .inr rfl⟩
theorem dn_sync : Jm.sync dn = (dn, 61) := by rw [Jm.sync_err (by rw [dn_eff]; decide), dn_eff]
theorem dn_crash (n : Int) : Jm.crash dn n = dn := Jm.crash_empty _ _ _ _
theorem dn_len : (Fm.frm 1 [120]).length = 9 := Fm.frm_len _ _
theorem dn_size : Jm.size dn ≤ 4194304 := by show _ + _ ≤ _; rw [show dn.kept.length = 9 from dn_len]; decide
theorem dn_by : Fm.By (Fm.frm 1 [120]) := Fm.frm_by (by omega) (by unfold Fm.By; decide) (by decide)
theorem dn_opn : Jm.opn dn = (⟨Fm.frm 1 [120], [], -1, false⟩, [(1, [120])], 0) := by
  have := Jm.opn_whole (fs := [(1, [120])]) (by intro f hf; rw [List.mem_singleton] at hf; subst hf; decide) [] (-1) true
  rw [Jm.cat_one] at this
  exact this

set_option maxRecDepth 100000 in
set_option maxHeartbeats 4000000 in
theorem down_walk (a0 : Option Addr) (len0 cap0 : Nat) (os : List Cl) (w : World) (w1 : ClsAt w w.heap.size a0 len0 cap0 os) (t0 : TabAt w) :
    Calls Tryd.prog 7 #[.slice a0 len0 cap0] w fun e w' => e = .returned (.bool true) ∧ Below w.heap.size w w' := by
  have HT := Lib.hid t0.tab
  have HC := Lib.hid w1
  have hN := w1.1
  have hm1 : len0 ≤ 9223372036854775807 := by have h1 := w1.2.1; have h2 := w1.2.2.1; unfold maxLen at h2; omega
  clear w1 t0
  go_enter Tryd.func7, Tryd.ntmps7
  go_wp2_with (go_at_call 8; refine (head_any _ HT.out).mono ?_; rintro e w1 ⟨rfl, hb1⟩)
  refine (new_own w w1 hb1).mono ?_
  rintro e w2 ⟨rfl, j2⟩
  clear hb1
  generalize w1.heap.size = g at *
  have HG := Lib.hid (great_any a0 len0 cap0 w.heap.size os w2 (HC.out.below j2.bel))
  have HJ2 := Lib.hid j2
  clear j2
  go_wp2_with (go_at_call 11; fail)
  refine HG.out.mono ?_
  rintro e w3 ⟨b, rfl, hwt, rfl⟩
  cases b with
  | true =>
    go_wp2
    go_ret
    exact ⟨rfl, HJ2.out.bel⟩
  | false =>
    have HW := Lib.hid (hwt rfl)
    clear hwt
    have kc := Lib.run_convert_bytes_const (P := Tryd.prog) w3 29 5 #[.int .u8 120] 1 1 Tryd.underlying29 Tryd.underlying5
    rw [show (#[Value.int .u8 120] : Array Value).size = 1 from rfl] at kc
    have R1 : Rd (w3.alloc (.cells #[.int .u8 120] 5 (1, 2))) (w3.heap.size + 1) (some ⟨w3.heap.size, 0, none⟩) (u8s [120]) := Rd.new w3 (w3.heap.size + 1) (u8s [120]) 5 (1, 2) (by omega)
    have j1a := HJ2.out.below ((Below.refl _ w3).alloc (Nat.le_refl _) (.cells #[.int .u8 120] 5 (1, 2)))
    have hs1 : (w3.alloc (.cells #[.int .u8 120] 5 (1, 2))).heap.size = w3.heap.size + 1 := World.size_alloc ..
    have hby : Fm.By [120] := by unfold Fm.By; decide
    have H1 := Lib.hid (append_own j1a HT.out 1 (some ⟨w3.heap.size, 0, none⟩) 1 1 (w3.heap.size + 1) [120] (by omega) R1 rfl (by omega) (by unfold maxLen; omega) (by omega) hby (by decide))
    rw [Jm.append_new (by decide)] at H1
    dsimp only at H1
    clear R1 j1a hs1
    go_wp2_with (go_at_call 12; fail)
    refine H1.out.mono ?_
    rintro e w4 ⟨rfl, j4⟩
    have H2 := Lib.hid (sync_own j4 (by show _ + _ ≤ _; rw [dn_len]; decide))
    rw [Jm.sync_up, List.nil_append] at H2
    dsimp only at H2
    clear j4 kc
    go_wp2_with (go_at_call 14; fail)
    refine H2.out.mono ?_
    rintro e w5 ⟨rfl, j5⟩
    have H3 := Lib.hid (crash_own j5 0 (by show _ + _ ≤ _; rw [dn_len]; decide))
    rw [Jm.crash_empty] at H3
    clear j5
    go_wp2_with (go_at_call 20; fail)
    refine H3.out.mono ?_
    rintro e w6 ⟨rfl, j6⟩
    have H4 := Lib.hid (synced_own (s := dn) j6 (Nat.le_trans dn_size (by decide)))
    have HJ6 := Lib.hid (show Own w w6 g dn from j6)
    clear j6
    go_wp2_with (go_at_call 26; fail)
    refine H4.out.mono ?_
    rintro e w7 ⟨v7, rfl, hown7, hb7⟩
    obtain ⟨A7, c7, rfl, -, -, hrd7⟩ := own_view hown7
    have j7 := HJ6.out.below hb7
    have c7' := str_of (cap := c7) hrd7 rfl
    clear hown7 hb7 hrd7
    go_wp2_with fail
    clear c7'
    go_loopw [6, 7] (fun ix ex wr => ∃ (k : Nat), ix = .int .i64 (k : Int) ∧ k ≤ len0 ∧ Hid (Own w wr g dn)) (fun ix _ _ => len0 - (intOf ix).toNat)
    case atStart => exact ⟨0, rfl, by omega, j7⟩
    case round =>
      obtain ⟨k, rfl, hk, HO⟩ := hrel
      by_cases hlt : k < len0
      · obtain ⟨o, ho⟩ : ∃ o, os[k]? = some o := ⟨os[k]'(by rw [hN]; exact hlt), List.getElem?_eq_getElem _⟩
        obtain ⟨ad, A, c, rfl, hcl⟩ := HC.out.2.2.2 k o ho
        have HCL := Lib.hid (hcl.below HO.out.bel)
        have c0 := HCL.out.c0
        have c3 := HCL.out.c3
        have d3 : (k : Int) < (len0 : Int) := by omega
        have HK1 := Lib.hid (fun (W : World) (q : Below wr.heap.size wr W) => (q.cell (p := ⟨(ad.add (k * 4)).block, (ad.add (k * 4)).off + 1, none⟩) (by have := HO.out.bel.size; have := HCL.out.blk; dsimp only; rw [addr_add_block]; omega)).trans HCL.out.c1)
        have HK2 := Lib.hid (fun (W : World) (q : Below wr.heap.size wr W) => (q.cell (p := ⟨(ad.add (k * 4)).block, (ad.add (k * 4)).off + 2, none⟩) (by have := HO.out.bel.size; have := HCL.out.blk; dsimp only; rw [addr_add_block]; omega)).trans HCL.out.c2)
        have HAP := Lib.hid (fun (W : World) (q : Below wr.heap.size wr W) => append_own (HO.out.below q) HT.out o.kind A o.body.length c w.heap.size o.body HCL.out.k (HCL.out.rd.below (q.mono HO.out.bel.size)) rfl HCL.out.lc HCL.out.cm (Nat.le_trans HO.out.bel.size q.size) HCL.out.by_ (Nat.le_trans dn_size (by decide)))
        have HSY := Lib.hid (sync_own HO.out (Nat.le_trans dn_size (by decide)))
        have HEF := Lib.hid (effect_own HO.out)
        have HCR := Lib.hid (crash_own HO.out o.num (Nat.le_trans dn_size (by decide)))
        obtain ⟨e1, e2⟩ := dn_append o.kind o.body
        rw [e1] at HAP
        rw [dn_sync] at HSY
        rw [dn_eff] at HEF
        rw [dn_crash] at HCR
        dsimp only at HSY HEF
        generalize (Jm.append dn o.kind o.body).2 = ea at *
        have hea : (ea == 0) = false := by rcases e2 with rfl | rfl <;> decide
        clear ho hcl e1 e2
        by_cases r0 : (bits BinOp.and IntKind.i64 o.what 3 == 0) = true
        · skip
          go_wp2_with fail
          refine region_F (fun W => Below wr.heap.size wr W) (fun j => j == 11) (by kernel_rfl) ?_
          have hC : Below wr.heap.size wr wr.drew := (Below.refl _ _).drew
          refine anyP_take (i := 0) (v := ?v0_1) (a' := ?a0_1) rfl (by kernel_rfl) (by kernel_rfl) (by kernel_rfl) (fun _ _ _ h => h) (by first | exact .inl hC | exact .inr (by kernel_rfl)) (by kernel_rfl) ?w0_1 ?y0_1 ?f0_1 ?r0_1
          case w0_1 => kernel_rfl
          case y0_1 => (intro w hC; go_simp; try with_reducible rfl)
          case f0_1 => (go_simp; try with_reducible rfl)
          refine anyP_take (i := 1) (v := ?v1_2) (a' := ?a1_2) rfl (by kernel_rfl) (by kernel_rfl) (by kernel_rfl) (fun _ _ _ h => h) (by first | exact .inl hC | exact .inr (by kernel_rfl)) (by kernel_rfl) ?w1_2 ?y1_2 ?f1_2 ?r1_2
          case w1_2 => kernel_rfl
          case y1_2 => (intro w hC; go_simp; try with_reducible rfl)
          case f1_2 => (go_simp; try with_reducible rfl)
          refine anyP_take (i := 2) (v := ?v2_3) (a' := ?a2_3) rfl (by kernel_rfl) (by kernel_rfl) (by kernel_rfl) (fun _ _ _ h => h) (by first | exact .inl hC | exact .inr (by kernel_rfl)) (by kernel_rfl) ?w2_3 ?y2_3 ?f2_3 ?r2_3
          case w2_3 => kernel_rfl
          case y2_3 => (intro w hC; go_simp; try with_reducible rfl)
          case f2_3 => (go_simp; try with_reducible rfl)
          refine anyP_take (i := 3) (v := ?v3_4) (a' := ?a3_4) rfl (by kernel_rfl) (by kernel_rfl) (by kernel_rfl) (fun _ _ _ h => h) (by first | exact .inl hC | exact .inr (by kernel_rfl)) (by kernel_rfl) ?w3_4 ?y3_4 ?f3_4 ?r3_4
          case w3_4 => kernel_rfl
          case y3_4 => (intro w hC; go_simp; try with_reducible rfl)
          case f3_4 => (go_simp; try with_reducible rfl)
          refine anyP_take (i := 4) (v := ?v4_5) (a' := ?a4_5) rfl (by kernel_rfl) (by kernel_rfl) (by kernel_rfl) (fun _ _ _ h => h) (by first | exact .inl hC | exact .inr (by kernel_rfl)) (by kernel_rfl) ?w4_5 ?y4_5 ?f4_5 ?r4_5
          case w4_5 => kernel_rfl
          case y4_5 => (intro w hC; go_simp; try with_reducible rfl)
          case f4_5 => (go_simp; try with_reducible rfl)
          refine anyP_take (i := 6) (v := ?v6_6) (a' := ?a6_6) rfl (by kernel_rfl) (by kernel_rfl) (by kernel_rfl) (fun _ _ _ h => h) (by first | exact .inl hC | exact .inr (by kernel_rfl)) (by kernel_rfl) ?w6_6 ?y6_6 ?f6_6 ?r6_6
          case w6_6 => kernel_rfl
          case y6_6 => (intro w hC; go_simp; try with_reducible rfl)
          case f6_6 => (go_simp; try with_reducible rfl)
          refine anyP_take (i := 7) (v := ?v7_7) (a' := ?a7_7) rfl (by kernel_rfl) (by kernel_rfl) (by kernel_rfl) (fun _ _ _ h => h) (by first | exact .inl hC | exact .inr (by kernel_rfl)) (by kernel_rfl) ?w7_7 ?y7_7 ?f7_7 ?r7_7
          case w7_7 => kernel_rfl
          case y7_7 => (intro w hC; go_simp; try with_reducible rfl)
          case f7_7 => (go_simp; try with_reducible rfl)
          refine anyP_take (i := 8) (v := ?v8_8) (a' := ?a8_8) rfl (by kernel_rfl) (by kernel_rfl) (by kernel_rfl) (fun _ _ _ h => h) (by first | exact .inl hC | exact .inr (by kernel_rfl)) (by kernel_rfl) ?w8_8 ?y8_8 ?f8_8 ?r8_8
          case w8_8 => kernel_rfl
          case y8_8 => (intro w hC; go_simp; try with_reducible rfl)
          case f8_8 => (go_simp; try with_reducible rfl)
          refine anyP_take (i := 9) (v := ?v9_9) (a' := ?a9_9) rfl (by kernel_rfl) (by kernel_rfl) (by kernel_rfl) (fun _ _ _ h => h) (by first | exact .inl hC | exact .inr (by kernel_rfl)) (by kernel_rfl) ?w9_9 ?y9_9 ?f9_9 ?r9_9
          case w9_9 => kernel_rfl
          case y9_9 => (intro w hC; go_simp; try with_reducible rfl)
          case f9_9 => (go_simp; try with_reducible rfl)
          refine anyF_take (i := 5) (v := ?v5_10) (a' := ?a5_10) rfl (by kernel_rfl) (by kernel_rfl) (by kernel_rfl) (fun _ _ _ h => h) hC (by kernel_rfl) ?w5_10 ?y5_10 ?f5_10 ?r5_10
          case w5_10 => kernel_rfl
          case y5_10 => (intro w hC; have h4 := HK1.out w hC; go_simp; try with_reducible rfl)
          case f5_10 => (go_simp; try with_reducible rfl)
          refine anyF_take (i := 10) (v := ?v10_11) (a' := ?a10_11) rfl (by kernel_rfl) (by kernel_rfl) (by kernel_rfl) (fun _ _ _ h => h) hC (by kernel_rfl) ?w10_11 ?y10_11 ?f10_11 ?r10_11
          case w10_11 => kernel_rfl
          case y10_11 => (intro w hC; have h4 := HK2.out w hC; go_simp; try with_reducible rfl)
          case f10_11 => (go_simp; try with_reducible rfl)
          refine anyF_one (i := 11) rfl (by kernel_rfl) (by kernel_rfl) (fun K hK => ?_)
          go_simp
          refine (HAP.out _ hC).mono ?_
          rintro e w8 ⟨rfl, j8⟩
          refine hK _ _ ⟨.inr (by kernel_rfl), ?_⟩
          clear hK K c0 c3
          refine anyP_take (i := 12) (v := ?v12_12) (a' := ?a12_12) rfl (by kernel_rfl) (by kernel_rfl) (by kernel_rfl) (fun _ _ _ h => h) (by first | exact .inl hC | exact .inr (by kernel_rfl)) (by kernel_rfl) ?w12_12 ?y12_12 ?f12_12 ?r12_12
          case w12_12 => kernel_rfl
          case y12_12 => (intro w hC; go_simp; try with_reducible rfl)
          case f12_12 => (go_simp; try with_reducible rfl)
          refine anyF_done (by kernel_rfl) ?_
          have HO8 := Lib.hid j8
          have HDN := Lib.hid (down_own j8)
          have HSN := Lib.hid (synced_own j8 (Nat.le_trans dn_size (by decide)))
          rw [show dn.off = true from rfl] at HDN
          clear j8
          go_wp2_with (go_at_call 25; refine HDN.out.mono ?_; rintro e w9 ⟨rfl, rfl⟩)
          refine HSN.out.mono ?_
          rintro e w10 ⟨v10, rfl, hown10, hb10⟩
          obtain ⟨A10, c10, rfl, -, -, hrd10⟩ := own_view hown10
          have HO10 := Lib.hid (HO8.out.below hb10)
          have c10' := str_of (cap := c10) hrd10 rfl
          clear hown10 hb10 hrd10
          go_wp2
          go_roundw
          case rel => exact ⟨k + 1, by go_num, by omega, HO10⟩
          case measure => simp [intOf]; omega
        have r0' : (bits BinOp.and IntKind.i64 o.what 3 == 0) = false := by simpa using r0
        clear r0
        by_cases r1 : (bits BinOp.and IntKind.i64 o.what 3 == 1) = true
        · skip
          go_wp2_with (go_at_call 14; fail)
          refine HSY.out.mono ?_
          rintro e w8 ⟨rfl, j8⟩
          clear c0 c3
          have HO8 := Lib.hid j8
          have HDN := Lib.hid (down_own j8)
          have HSN := Lib.hid (synced_own j8 (Nat.le_trans dn_size (by decide)))
          rw [show dn.off = true from rfl] at HDN
          clear j8
          go_wp2_with (go_at_call 25; refine HDN.out.mono ?_; rintro e w9 ⟨rfl, rfl⟩)
          refine HSN.out.mono ?_
          rintro e w10 ⟨v10, rfl, hown10, hb10⟩
          obtain ⟨A10, c10, rfl, -, -, hrd10⟩ := own_view hown10
          have HO10 := Lib.hid (HO8.out.below hb10)
          have c10' := str_of (cap := c10) hrd10 rfl
          clear hown10 hb10 hrd10
          go_wp2
          go_roundw
          case rel => exact ⟨k + 1, by go_num, by omega, HO10⟩
          case measure => simp [intOf]; omega
        have r1' : (bits BinOp.and IntKind.i64 o.what 3 == 1) = false := by simpa using r1
        clear r1
        by_cases r2 : (bits BinOp.and IntKind.i64 o.what 3 == 2) = true
        · skip
          go_wp2_with (go_at_call 16; fail)
          refine HEF.out.mono ?_
          rintro e w8 ⟨rfl, j8⟩
          clear c0 c3
          have HO8 := Lib.hid j8
          have HDN := Lib.hid (down_own j8)
          have HSN := Lib.hid (synced_own j8 (Nat.le_trans dn_size (by decide)))
          rw [show dn.off = true from rfl] at HDN
          clear j8
          go_wp2_with (go_at_call 25; refine HDN.out.mono ?_; rintro e w9 ⟨rfl, rfl⟩)
          refine HSN.out.mono ?_
          rintro e w10 ⟨v10, rfl, hown10, hb10⟩
          obtain ⟨A10, c10, rfl, -, -, hrd10⟩ := own_view hown10
          have HO10 := Lib.hid (HO8.out.below hb10)
          have c10' := str_of (cap := c10) hrd10 rfl
          clear hown10 hb10 hrd10
          go_wp2
          go_roundw
          case rel => exact ⟨k + 1, by go_num, by omega, HO10⟩
          case measure => simp [intOf]; omega
        have r2' : (bits BinOp.and IntKind.i64 o.what 3 == 2) = false := by simpa using r2
        clear r2
        by_cases r3 : (bits BinOp.and IntKind.i64 o.what 3 == 3) = true
        · skip
          go_wp2_with (go_at_call 20; fail)
          refine HCR.out.mono ?_
          rintro e w8 ⟨rfl, j8⟩
          clear c0 c3
          have HO8 := Lib.hid j8
          have HDN := Lib.hid (down_own j8)
          have HSN := Lib.hid (synced_own j8 (Nat.le_trans dn_size (by decide)))
          rw [show dn.off = true from rfl] at HDN
          clear j8
          go_wp2_with (go_at_call 25; refine HDN.out.mono ?_; rintro e w9 ⟨rfl, rfl⟩)
          refine HSN.out.mono ?_
          rintro e w10 ⟨v10, rfl, hown10, hb10⟩
          obtain ⟨A10, c10, rfl, -, -, hrd10⟩ := own_view hown10
          have HO10 := Lib.hid (HO8.out.below hb10)
          have c10' := str_of (cap := c10) hrd10 rfl
          clear hown10 hb10 hrd10
          go_wp2
          go_roundw
          case rel => exact ⟨k + 1, by go_num, by omega, HO10⟩
          case measure => simp [intOf]; omega
        have r3' : (bits BinOp.and IntKind.i64 o.what 3 == 3) = false := by simpa using r3
        clear r3
        have j8 := HO.out
        have HO8 := Lib.hid j8
        have HDN := Lib.hid (down_own j8)
        have HSN := Lib.hid (synced_own j8 (Nat.le_trans dn_size (by decide)))
        rw [show dn.off = true from rfl] at HDN
        clear j8
        go_wp2_with (go_at_call 25; refine HDN.out.mono ?_; rintro e w9 ⟨rfl, rfl⟩)
        refine HSN.out.mono ?_
        rintro e w10 ⟨v10, rfl, hown10, hb10⟩
        obtain ⟨A10, c10, rfl, -, -, hrd10⟩ := own_view hown10
        have HO10 := Lib.hid (HO8.out.below hb10)
        have c10' := str_of (cap := c10) hrd10 rfl
        clear hown10 hb10 hrd10
        go_wp2
        go_roundw
        case rel => exact ⟨k + 1, by go_num, by omega, HO10⟩
        case measure => simp [intOf]; omega
      · have H5 := Lib.hid (open_own HO.out HT.out dn_size)
        rw [dn_opn] at H5
        dsimp only at H5
        go_wp2_with (go_at_call 22; fail)
        refine H5.out.mono ?_
        rintro e w8 ⟨kk, bb, rfl, told, j8⟩
        obtain ⟨Ak, ck, vs, Ab, cb, rfl, rfl, -⟩ := told.outF
        clear told
        replace j8 : Own w w8 g ⟨dn.kept, [], -1, false⟩ := j8
        have HO8 := Lib.hid j8
        have HDN := Lib.hid (down_own j8)
        have HSN := Lib.hid (synced_own j8 (Nat.le_trans dn_size (by decide)))
        clear j8
        go_wp2_with (go_at_call 25; refine HDN.out.mono ?_; rintro e w9 ⟨rfl, rfl⟩)
        refine HSN.out.mono ?_
        rintro e w10 ⟨v10, rfl, hown10, hb10⟩
        obtain ⟨A10, c10, rfl, -, -, hrd10⟩ := own_view hown10
        have HO10 := Lib.hid (HO8.out.below hb10)
        have c10' := str_of (cap := c10) hrd10 rfl
        clear hown10 hb10 hrd10
        go_wp2
        go_ret
        exact ⟨rfl, HO10.out.bel⟩
end Go.Proofs.YtgpagddaopgdgaaDoor
