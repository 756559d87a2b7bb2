/- A journal's calls: the tail synced, a crash: the program's and the document's. -/
import Derived.Test.YtgpagddaopgdgaaDoorJn
namespace Go.Proofs.YtgpagddaopgdgaaDoor
open Go.RowKit Go.Shelf Km

section
variable {w w' w'' : World} {S : Nat → Prop} {g : Nat} {s s' : Jm.St} {kv rv : Value}

set_option maxRecDepth 100000 in
set_option maxHeartbeats 2000000 in
theorem sync_any (h : JAt w S g s kv rv) (hz : Jm.size s ≤ 16777216) :
    Calls Tryd.prog 14 #[.pointer (some ⟨g, 0, none⟩)] w fun e w' => e = .returned (.int .i64 (Jm.sync s).2) ∧ Did S w w' g (Jm.sync s).1 := by
  obtain ⟨w1, hw1⟩ : ∃ w1, w1 = w.alloc (.cells #[.pointer (some ⟨g, 0, none⟩)] 24) := ⟨_, rfl⟩
  have hb1 : Below w.heap.size w w1 := by rw [hw1]; exact (Below.refl _ w).alloc (Nat.le_refl _) _
  have hc1 : w1.cell? ⟨w.heap.size, 0, none⟩ = some (.pointer (some ⟨g, 0, none⟩)) := by rw [hw1]; exact (Boxed.new w _ _).cell
  have hk := Jm.eff_kept s
  have hze : Jm.size (Jm.eff s).1 ≤ 16777216 := by rw [Jm.size_eff]; exact hz
  have nS : ¬ S w.heap.size := fun hs => by have := h.lt _ hs; omega
  have he : (Jm.sync s).2 = (Jm.eff s).2 := by
    by_cases h0 : (Jm.eff s).2 = 0
    · rw [Jm.sync_ok h0, h0]
    · rw [Jm.sync_err h0]
  have HQ : Hid (Calls Tryd.prog 30 #[.pointer (some ⟨g, 0, none⟩), .func (.func 32) #[] #[.pointer (some ⟨w.heap.size, 0, none⟩)]] w1 fun e w' => e = .returned (.int .i64 (Jm.sync s).2) ∧ Did S w w' g (Jm.sync s).1) := by
    show Calls _ _ _ _ _
    rw [he]
    refine (perform_any (Q := fun w' => Did S w1 w' g (Jm.sync s).1) (h.below hb1) 32 _ (fun W => callFunc_enter Tryd.func32 rfl rfl _ _) (fun h0 w' k1 k2 => ?_) (fun h0 w' k1 k2 => ?_)).mono ?_
    · refine (syncs_any (k1.sx (w := w1)) (B := w.heap.size) (cell_out hc1 k2 nS) hze).mono ?_
      rintro e w'' ⟨rfl, d⟩
      rw [Jm.sync_ok h0]
      rw [hk.1, hk.2] at d
      exact ⟨rfl, (Did.of k1 k2).trans d⟩
    · rw [Jm.sync_err h0]
      exact Did.of k1 k2
    · rintro e w' ⟨rfl, d⟩
      exact ⟨rfl, d.pre hb1⟩
  clear h hk hze he nS hb1
  generalize Jm.sync s = r at *
  go_enter Tryd.func14, Tryd.ntmps14
  go_wp2_with (go_at_call 30; fail)
  rw [← hw1]
  refine HQ.out.mono ?_
  rintro e w2 ⟨rfl, hd⟩
  go_wp2
  go_ret
  exact ⟨rfl, hd⟩

set_option maxRecDepth 100000 in
set_option maxHeartbeats 2000000 in
theorem rsync_any (h : JAt w S g s kv rv) (hz : Jm.size s ≤ 16777216) :
    Calls Tryd.prog 15 #[.pointer (some ⟨g, 0, none⟩)] w fun e w' => e = .returned (.int .i64 (Jm.sync s).2) ∧ Did S w w' g (Jm.sync s).1 := by
  have HJ := Lib.hid (reffect_any h)
  have he0 := Jm.eff_kept s
  have hze : Jm.size (Jm.eff s).1 ≤ 16777216 := by rw [Jm.size_eff]; exact hz
  by_cases h0 : (Jm.eff s).2 = 0
  · rw [Jm.sync_ok h0, ← he0.1, ← he0.2]
    rw [h0] at HJ
    clear h hz he0 h0
    generalize (Jm.eff s).1 = s1 at *
    obtain ⟨i0, hi, hz0, hz1, hz2⟩ := info_parts info_u8
    unfold Jm.size at hze
    go_enter Tryd.func15, Tryd.ntmps15
    go_wp2_with (go_at_call 17; fail)
    refine HJ.out.mono ?_
    rintro e w1 ⟨rfl, k1, k2⟩
    obtain ⟨Ar, cr, rfl, hr1, hr2, hrd, -⟩ := own_view0 k1.rr
    have HT := Lib.hid (fun (W : World) (d : Did (Sx S w w1) w1 W g { s1 with kept := s1.kept ++ s1.rest, rest := [] }) => (Did.of k1 k2).trans d)
    have HK := Lib.hid (fun (W : World) (q : Below w1.heap.size w1 W) => (k1.sx (w := w)).below q)
    have hby := k1.ok.r
    clear k1 k2 HJ
    go_wp2_with fail
    refine region_F (fun W => Below w1.heap.size w1 W) (fun j => j == 9 || j == 12) (by kernel_rfl) ?_
    have hC : Below w1.heap.size w1 w1.drew := (Below.refl _ _).drew
    refine anyP_take (i := 0) (v := ?v0_1) (a' := ?a0_1) rfl (by kernel_rfl) (by kernel_rfl) (by kernel_rfl) (fun _ _ _ h => h) (by first | exact .inl hC | exact .inr (by kernel_rfl)) (by kernel_rfl) ?w0_1 ?y0_1 ?f0_1 ?r0_1
    case w0_1 => kernel_rfl
    case y0_1 => (intro w hC; go_simp; try with_reducible rfl)
    case f0_1 => (go_simp; try with_reducible rfl)
    refine anyP_take (i := 1) (v := ?v1_2) (a' := ?a1_2) rfl (by kernel_rfl) (by kernel_rfl) (by kernel_rfl) (fun _ _ _ h => h) (by first | exact .inl hC | exact .inr (by kernel_rfl)) (by kernel_rfl) ?w1_2 ?y1_2 ?f1_2 ?r1_2
    case w1_2 => kernel_rfl
    case y1_2 => (intro w hC; go_simp; try with_reducible rfl)
    case f1_2 => (go_simp; try with_reducible rfl)
    refine anyP_take (i := 2) (v := ?v2_3) (a' := ?a2_3) rfl (by kernel_rfl) (by kernel_rfl) (by kernel_rfl) (fun _ _ _ h => h) (by first | exact .inl hC | exact .inr (by kernel_rfl)) (by kernel_rfl) ?w2_3 ?y2_3 ?f2_3 ?r2_3
    case w2_3 => kernel_rfl
    case y2_3 => (intro w hC; go_simp; try with_reducible rfl)
    case f2_3 => (go_simp; try with_reducible rfl)
    refine anyP_take (i := 3) (v := ?v3_4) (a' := ?a3_4) rfl (by kernel_rfl) (by kernel_rfl) (by kernel_rfl) (fun _ _ _ h => h) (by first | exact .inl hC | exact .inr (by kernel_rfl)) (by kernel_rfl) ?w3_4 ?y3_4 ?f3_4 ?r3_4
    case w3_4 => kernel_rfl
    case y3_4 => (intro w hC; go_simp; try with_reducible rfl)
    case f3_4 => (go_simp; try with_reducible rfl)
    refine anyP_take (i := 5) (v := ?v5_5) (a' := ?a5_5) rfl (by kernel_rfl) (by kernel_rfl) (by kernel_rfl) (fun _ _ _ h => h) (by first | exact .inl hC | exact .inr (by kernel_rfl)) (by kernel_rfl) ?w5_5 ?y5_5 ?f5_5 ?r5_5
    case w5_5 => kernel_rfl
    case y5_5 => (intro w hC; go_simp; try with_reducible rfl)
    case f5_5 => (go_simp; try with_reducible rfl)
    refine anyP_take (i := 6) (v := ?v6_6) (a' := ?a6_6) rfl (by kernel_rfl) (by kernel_rfl) (by kernel_rfl) (fun _ _ _ h => h) (by first | exact .inl hC | exact .inr (by kernel_rfl)) (by kernel_rfl) ?w6_6 ?y6_6 ?f6_6 ?r6_6
    case w6_6 => kernel_rfl
    case y6_6 => (intro w hC; go_simp; try with_reducible rfl)
    case f6_6 => (go_simp; try with_reducible rfl)
    refine anyP_take (i := 7) (v := ?v7_7) (a' := ?a7_7) rfl (by kernel_rfl) (by kernel_rfl) (by kernel_rfl) (fun _ _ _ h => h) (by first | exact .inl hC | exact .inr (by kernel_rfl)) (by kernel_rfl) ?w7_7 ?y7_7 ?f7_7 ?r7_7
    case w7_7 => kernel_rfl
    case y7_7 => (intro w hC; go_simp; try with_reducible rfl)
    case f7_7 => (go_simp; try with_reducible rfl)
    refine anyF_take (i := 4) (v := ?v4_8) (a' := ?a4_8) rfl (by kernel_rfl) (by kernel_rfl) (by kernel_rfl) (fun _ _ _ h => h) hC (by kernel_rfl) ?w4_8 ?y4_8 ?f4_8 ?r4_8
    case w4_8 => kernel_rfl
    case y4_8 => (intro w hC; have h4 := ((HK.out w hC).at 0 rfl).1; go_simp; try with_reducible rfl)
    case f4_8 => (go_simp; try with_reducible rfl)
    refine anyF_take (i := 8) (v := ?v8_9) (a' := ?a8_9) rfl (by kernel_rfl) (by kernel_rfl) (by kernel_rfl) (fun _ _ _ h => h) hC (by kernel_rfl) ?w8_9 ?y8_9 ?f8_9 ?r8_9
    case w8_9 => kernel_rfl
    case y8_9 => (intro w hC; have h4 := ((HK.out w hC).at 1 rfl).1; go_simp; try with_reducible rfl)
    case f8_9 => (go_simp; try with_reducible rfl)
    refine anyF_one (i := 9) rfl (by kernel_rfl) (by kernel_rfl) (fun K hK => ?_)
    refine op_app2 (.tmp 13) (.tmp 17) 29 rfl 0 5 i0 (.int .u8 0) 1 Tryd.underlying29 hi hz0 hz1 hz2 rfl kv s1.kept.length (u8s s1.kept) rfl (HK.out _ hC).kr w1.heap.size Ar s1.rest.length cr (u8s s1.rest) rfl (by rw [List.length_map]) (hrd.below hC) (oneCell_ints _ _) (by unfold maxLen; omega) (by omega) (Nat.zero_le _) ?_
    intro v' w2 hown hgrow hblk
    obtain ⟨A3, c3, rfl, -, -, -⟩ := own_view hown
    have hown' : w2.ownsRow 0 5 1 (.slice A3 (s1.kept.length + s1.rest.length) c3) (s1.kept ++ s1.rest).length (u8s (s1.kept ++ s1.rest)) := by
      rw [List.length_append, show u8s (s1.kept ++ s1.rest) = u8s s1.kept ++ u8s s1.rest from List.map_append]
      exact hown
    obtain ⟨⟨c0, f0⟩, ⟨c1, f1⟩, -, HD⟩ := (HK.out _ hC).keeping hgrow hby hown' hblk
    refine hK _ _ ⟨.inr (by kernel_rfl), ?_⟩
    clear hK K hown hown' hgrow hblk hrd HK
    refine anyP_take (i := 10) (v := ?v10_10) (a' := ?a10_10) rfl (by kernel_rfl) (by kernel_rfl) (by kernel_rfl) (fun _ _ _ h => h) (by first | exact .inl hC | exact .inr (by kernel_rfl)) (by kernel_rfl) ?w10_10 ?y10_10 ?f10_10 ?r10_10
    case w10_10 => kernel_rfl
    case y10_10 => (intro w hC; go_simp; try with_reducible rfl)
    case f10_10 => (go_simp; try with_reducible rfl)
    refine anyP_take (i := 11) (v := ?v11_11) (a' := ?a11_11) rfl (by kernel_rfl) (by kernel_rfl) (by kernel_rfl) (fun _ _ _ h => h) (by first | exact .inl hC | exact .inr (by kernel_rfl)) (by kernel_rfl) ?w11_11 ?y11_11 ?f11_11 ?r11_11
    case w11_11 => kernel_rfl
    case y11_11 => (intro w hC; go_simp; try with_reducible rfl)
    case f11_11 => (go_simp; try with_reducible rfl)
    refine anyF_one (i := 12) rfl (by kernel_rfl) (by kernel_rfl) (fun K hK => ?_)
    go_simp
    refine hK _ _ ⟨.inr (by kernel_rfl), ?_⟩
    clear hK K c0 f0
    refine anyF_done (by kernel_rfl) ?_
    go_wp2
    go_ret
    exact ⟨rfl, HT.out _ HD.out.drew⟩
  · rw [Jm.sync_err h0]
    have hne : ((Jm.eff s).2 != 0) = true := by rw [bne_iff_ne]; exact h0
    have HD : Hid (∀ w', JAt w' S g (Jm.eff s).1 kv rv ∧ Out S w w' → Did S w w' g (Jm.eff s).1) := fun w' q => Did.of q.1 q.2
    clear h hz he0 hze
    generalize Jm.eff s = s1 at *
    obtain ⟨s1, er⟩ := s1
    dsimp only at *
    go_enter Tryd.func15, Tryd.ntmps15
    go_wp2_with (go_at_call 17; refine HJ.out.mono ?_; rintro e w1 ⟨rfl, k1⟩)
    go_ret
    exact ⟨rfl, HD.out _ k1⟩

/-- so many bytes of the tail as a crash keeps: what min and max of numbers make -/
theorem part_of (s : Jm.St) (n : Int) : ((Jm.part s n : Nat) : Int) = (if (s.rest.length : Int) < (if n < 0 then 0 else n) then (s.rest.length : Int) else if n < 0 then 0 else n) ∧ Jm.part s n ≤ s.rest.length := by
  unfold Jm.part
  split
  · rw [if_neg (by omega)]; exact ⟨rfl, Nat.zero_le _⟩
  · split
    · exact ⟨rfl, Nat.le_refl _⟩
    · exact ⟨by omega, by omega⟩

set_option maxRecDepth 100000 in
set_option maxHeartbeats 2000000 in
theorem crash_any (h : JAt w S g s kv rv) (n : Int) (hz : Jm.size s ≤ 16777216) :
    Calls Tryd.prog 20 #[.pointer (some ⟨g, 0, none⟩), .int .i64 n] w fun e w' => e = .returned (.tuple #[]) ∧ Did S w w' g (Jm.crash s n) := by
  obtain ⟨hp1, hp2⟩ := part_of s n
  have HK := Lib.hid (fun (m : Int) (hm : ((Jm.part s n : Nat) : Int) = m) => by
    have := keep_any h (Jm.part s n) hp2 hz
    rw [hm] at this
    exact this)
  obtain ⟨c1, -⟩ := h.at 1 rfl
  obtain ⟨Ar, cr, rfl, hr1, hr2, hrd, -⟩ := own_view0 h.rr
  clear h hr1 hr2 hrd
  go_enter Tryd.func20, Tryd.ntmps20
  go_wp2_with (go_at_call 33; fail)
  all_goals
    refine (HK.out _ (by rw [hp1]; (repeat' split) <;> omega)).mono ?_
    rintro e w1 ⟨rfl, ⟨kv1, rv1, k1⟩, o1⟩
    have HF := Lib.hid (fall_any k1)
    have HT : Hid (∀ W, JAt W (Sx S w w1) g _ kv1 rv1 ∧ Out (Sx S w w1) w1 W → Did S w W g (Jm.crash s n)) := fun W q => Did.trans ⟨⟨kv1, rv1, k1⟩, o1⟩ (Did.of q.1 q.2)
    clear k1 o1 HK
    go_wp2_with (go_at_call 35; refine HF.out.mono ?_; rintro e w2 ⟨rfl, k2⟩)
    go_end0
    exact ⟨rfl, HT.out _ k2⟩

set_option maxRecDepth 100000 in
set_option maxHeartbeats 2000000 in
theorem rcrash_any (h : JAt w S g s kv rv) (n : Int) (hz : Jm.size s ≤ 16777216) :
    Calls Tryd.prog 21 #[.pointer (some ⟨g, 0, none⟩), .int .i64 n] w fun e w' => e = .returned (.tuple #[]) ∧ Did S w w' g (Jm.crash s n) := by
  obtain ⟨hp1, hp2⟩ := part_of s n
  obtain ⟨i0, hi, hz0, hz1, hz2⟩ := info_parts info_u8
  obtain ⟨c1, -⟩ := h.at 1 rfl
  obtain ⟨Ar, cr, rfl, hr1, hr2, hrd, -⟩ := own_view0 h.rr
  have hsl0 : ∀ (m : Int), ((Jm.part s n : Nat) : Int) = m → ∀ W, (Instr.slice 29 (.slice Ar s.rest.length cr) none (some (.int .i64 m)) none).run Tryd.prog W = .ok (.slice (cutA Ar 0 cr) (Jm.part s n) cr) W := fun m hm W => by
    subst hm
    exact run_cut_h (P := Tryd.prog) Tryd.underlying29 (size_of_info hi hz1) Ar s.rest.length cr (Jm.part s n) (by omega) W
  have hrc := rd_cut0 (n := Jm.part s n) hrd hr1
  have hln : (s.rest.take (Jm.part s n)).length = Jm.part s n := by rw [List.length_take]; omega
  have HD : Hid (∀ (W : World) (S' : Nat → Prop) (kv' : Value), (∀ b, S' b → Sx S w W b) → Out S w W → JAt W S' g { s with kept := s.kept ++ s.rest.take (Jm.part s n), rest := [] } kv' (.slice none 0 0) →
      (W.cell? ⟨g, 2, none⟩ = some (.int .i64 s.burn) ∧ W.frozen? ⟨g, 2, none⟩ = false) ∧ ((W.setCell ⟨g, 2, none⟩ (.int .i64 (-1))).cell? ⟨g, 3, none⟩ = some (.bool s.off) ∧ (W.setCell ⟨g, 2, none⟩ (.int .i64 (-1))).frozen? ⟨g, 3, none⟩ = false) ∧
        Hid (Did S w ((W.setCell ⟨g, 2, none⟩ (.int .i64 (-1))).setCell ⟨g, 3, none⟩ (.bool true)) g (Jm.crash s n))) := by
    intro W S' kv' q1 q2 q3
    have k1 := q3.burn (-1) (Jm.ok_fall q3.ok)
    have k2 := k1.offs true
    refine ⟨q3.at 2 rfl, k1.at 3 rfl, ?_⟩
    have q4 : JAt W (Sx S w W) g _ kv' (.slice none 0 0) := q3.more q1 (fun b q => q.elim (fun q => Nat.lt_of_lt_of_le (h.lt b q) q2.size) (fun q => q.2))
    have m1 := q4.burn (-1) (Jm.ok_fall q3.ok)
    have m2 := m1.offs true
    exact Did.trans ⟨⟨_, _, q4⟩, q2⟩ (Did.of m2 ((q4.setOut 2 (.int .i64 (-1))).trans ((m1.setOut 3 (.bool true)).more fun _ q => .inl q)))
  unfold Jm.size at hz
  generalize cutA Ar 0 cr = Ac at hsl0 hrc
  have hby := h.ok.r.take (Jm.part s n)
  have HK := Lib.hid (fun (W : World) (q : Below w.heap.size w W) => h.below q)
  clear h
  go_enter Tryd.func21, Tryd.ntmps21
  go_wp2_with fail
  · have hsl := hsl0 ((s.rest.length : Int)) (by rw [hp1]; (repeat' split) <;> omega)
    refine region_F (fun W => Below w.heap.size w W) (fun j => j == 11 || j == 14) (by kernel_rfl) ?_
    have hC : Below w.heap.size w w.drew := (Below.refl _ _).drew
    refine anyP_take (i := 0) (v := ?v0_12) (a' := ?a0_12) rfl (by kernel_rfl) (by kernel_rfl) (by kernel_rfl) (fun _ _ _ h => h) (by first | exact .inl hC | exact .inr (by kernel_rfl)) (by kernel_rfl) ?w0_12 ?y0_12 ?f0_12 ?r0_12
    case w0_12 => kernel_rfl
    case y0_12 => (intro w hC; go_simp; try with_reducible rfl)
    case f0_12 => (go_simp; try with_reducible rfl)
    refine anyP_take (i := 1) (v := ?v1_13) (a' := ?a1_13) rfl (by kernel_rfl) (by kernel_rfl) (by kernel_rfl) (fun _ _ _ h => h) (by first | exact .inl hC | exact .inr (by kernel_rfl)) (by kernel_rfl) ?w1_13 ?y1_13 ?f1_13 ?r1_13
    case w1_13 => kernel_rfl
    case y1_13 => (intro w hC; go_simp; try with_reducible rfl)
    case f1_13 => (go_simp; try with_reducible rfl)
    refine anyP_take (i := 2) (v := ?v2_14) (a' := ?a2_14) rfl (by kernel_rfl) (by kernel_rfl) (by kernel_rfl) (fun _ _ _ h => h) (by first | exact .inl hC | exact .inr (by kernel_rfl)) (by kernel_rfl) ?w2_14 ?y2_14 ?f2_14 ?r2_14
    case w2_14 => kernel_rfl
    case y2_14 => (intro w hC; go_simp; try with_reducible rfl)
    case f2_14 => (go_simp; try with_reducible rfl)
    refine anyP_take (i := 3) (v := ?v3_15) (a' := ?a3_15) rfl (by kernel_rfl) (by kernel_rfl) (by kernel_rfl) (fun _ _ _ h => h) (by first | exact .inl hC | exact .inr (by kernel_rfl)) (by kernel_rfl) ?w3_15 ?y3_15 ?f3_15 ?r3_15
    case w3_15 => kernel_rfl
    case y3_15 => (intro w hC; go_simp; try with_reducible rfl)
    case f3_15 => (go_simp; try with_reducible rfl)
    refine anyP_take (i := 5) (v := ?v5_16) (a' := ?a5_16) rfl (by kernel_rfl) (by kernel_rfl) (by kernel_rfl) (fun _ _ _ h => h) (by first | exact .inl hC | exact .inr (by kernel_rfl)) (by kernel_rfl) ?w5_16 ?y5_16 ?f5_16 ?r5_16
    case w5_16 => kernel_rfl
    case y5_16 => (intro w hC; go_simp; try with_reducible rfl)
    case f5_16 => (go_simp; try with_reducible rfl)
    refine anyP_take (i := 6) (v := ?v6_17) (a' := ?a6_17) rfl (by kernel_rfl) (by kernel_rfl) (by kernel_rfl) (fun _ _ _ h => h) (by first | exact .inl hC | exact .inr (by kernel_rfl)) (by kernel_rfl) ?w6_17 ?y6_17 ?f6_17 ?r6_17
    case w6_17 => kernel_rfl
    case y6_17 => (intro w hC; go_simp; try with_reducible rfl)
    case f6_17 => (go_simp; try with_reducible rfl)
    refine anyP_take (i := 7) (v := ?v7_18) (a' := ?a7_18) rfl (by kernel_rfl) (by kernel_rfl) (by kernel_rfl) (fun _ _ _ h => h) (by first | exact .inl hC | exact .inr (by kernel_rfl)) (by kernel_rfl) ?w7_18 ?y7_18 ?f7_18 ?r7_18
    case w7_18 => kernel_rfl
    case y7_18 => (intro w hC; go_simp; try with_reducible rfl)
    case f7_18 => (go_simp; try with_reducible rfl)
    refine anyP_take (i := 9) (v := ?v9_19) (a' := ?a9_19) rfl (by kernel_rfl) (by kernel_rfl) (by kernel_rfl) (fun _ _ _ h => h) (by first | exact .inl hC | exact .inr (by kernel_rfl)) (by kernel_rfl) ?w9_19 ?y9_19 ?f9_19 ?r9_19
    case w9_19 => kernel_rfl
    case y9_19 => (intro w hC; go_simp; try with_reducible rfl)
    case f9_19 => (go_simp; try with_reducible rfl)
    refine anyF_take (i := 4) (v := ?v4_20) (a' := ?a4_20) rfl (by kernel_rfl) (by kernel_rfl) (by kernel_rfl) (fun _ _ _ h => h) hC (by kernel_rfl) ?w4_20 ?y4_20 ?f4_20 ?r4_20
    case w4_20 => kernel_rfl
    case y4_20 => (intro w hC; have h4 := ((HK.out w hC).at 0 rfl).1; go_simp; try with_reducible rfl)
    case f4_20 => (go_simp; try with_reducible rfl)
    refine anyF_take (i := 8) (v := ?v8_21) (a' := ?a8_21) rfl (by kernel_rfl) (by kernel_rfl) (by kernel_rfl) (fun _ _ _ h => h) hC (by kernel_rfl) ?w8_21 ?y8_21 ?f8_21 ?r8_21
    case w8_21 => kernel_rfl
    case y8_21 => (intro w hC; have h4 := ((HK.out w hC).at 1 rfl).1; go_simp; try with_reducible rfl)
    case f8_21 => (go_simp; try with_reducible rfl)
    refine anyP_take (i := 10) (v := ?v10_22) (a' := ?a10_22) rfl (by kernel_rfl) (by kernel_rfl) (by kernel_rfl) (fun _ _ _ h => h) (by first | exact .inl hC | exact .inr (by kernel_rfl)) (by kernel_rfl) ?w10_22 ?y10_22 ?f10_22 ?r10_22
    case w10_22 => kernel_rfl
    case y10_22 => (intro w hC; go_simp; try with_reducible rfl)
    case f10_22 => (go_simp; try with_reducible rfl)
    refine anyF_one (i := 11) rfl (by kernel_rfl) (by kernel_rfl) (fun K hK => ?_)
    refine op_app2 (.tmp 17) (.tmp 23) 29 rfl 0 5 i0 (.int .u8 0) 1 Tryd.underlying29 hi hz0 hz1 hz2 rfl kv s.kept.length (u8s s.kept) rfl (HK.out _ hC).kr w.heap.size Ac (Jm.part s n) cr (u8s (s.rest.take (Jm.part s n))) rfl (by rw [List.length_map]; exact hln) hrc (oneCell_ints _ _) (by unfold maxLen; omega) (by omega) (Nat.zero_le _) ?_
    intro v' w2 hown hgrow hblk
    obtain ⟨A3, c3, rfl, -, -, -⟩ := own_view hown
    have hown' : w2.ownsRow 0 5 1 (.slice A3 (s.kept.length + Jm.part s n) c3) (s.kept ++ s.rest.take (Jm.part s n)).length (u8s (s.kept ++ s.rest.take (Jm.part s n))) := by
      rw [List.length_append, hln, show u8s (s.kept ++ s.rest.take (Jm.part s n)) = u8s s.kept ++ u8s (s.rest.take (Jm.part s n)) from List.map_append]
      exact hown
    obtain ⟨⟨c0, f0⟩, ⟨c1, f1⟩, HS, HE⟩ := (HK.out _ hC).keeping hgrow hby hown' hblk
    obtain ⟨S', hS1, hS2⟩ := HS.out
    obtain ⟨⟨d0, g0⟩, ⟨d1, g1⟩, HX⟩ := HD.out _ S' _ hS1 HE.out.drew.2 hS2
    refine hK _ _ ⟨.inr (by kernel_rfl), ?_⟩
    clear hK K hown hown' hgrow hblk hrd hrc hsl hsl0 HK HD HS HE hS1 hS2
    refine anyP_take (i := 12) (v := ?v12_23) (a' := ?a12_23) rfl (by kernel_rfl) (by kernel_rfl) (by kernel_rfl) (fun _ _ _ h => h) (by first | exact .inl hC | exact .inr (by kernel_rfl)) (by kernel_rfl) ?w12_23 ?y12_23 ?f12_23 ?r12_23
    case w12_23 => kernel_rfl
    case y12_23 => (intro w hC; go_simp; try with_reducible rfl)
    case f12_23 => (go_simp; try with_reducible rfl)
    refine anyP_take (i := 13) (v := ?v13_24) (a' := ?a13_24) rfl (by kernel_rfl) (by kernel_rfl) (by kernel_rfl) (fun _ _ _ h => h) (by first | exact .inl hC | exact .inr (by kernel_rfl)) (by kernel_rfl) ?w13_24 ?y13_24 ?f13_24 ?r13_24
    case w13_24 => kernel_rfl
    case y13_24 => (intro w hC; go_simp; try with_reducible rfl)
    case f13_24 => (go_simp; try with_reducible rfl)
    refine anyF_one (i := 14) rfl (by kernel_rfl) (by kernel_rfl) (fun K hK => ?_)
    go_simp
    refine hK _ _ ⟨.inr (by kernel_rfl), ?_⟩
    clear hK K c0 f0
    refine anyF_done (by kernel_rfl) ?_
    go_wp2
    go_end0
    exact ⟨rfl, HX.out⟩
  · have hsl := hsl0 (0) (by rw [hp1]; (repeat' split) <;> omega)
    refine region_F (fun W => Below w.heap.size w W) (fun j => j == 11 || j == 14) (by kernel_rfl) ?_
    have hC : Below w.heap.size w w.drew := (Below.refl _ _).drew
    refine anyP_take (i := 0) (v := ?v0_25) (a' := ?a0_25) rfl (by kernel_rfl) (by kernel_rfl) (by kernel_rfl) (fun _ _ _ h => h) (by first | exact .inl hC | exact .inr (by kernel_rfl)) (by kernel_rfl) ?w0_25 ?y0_25 ?f0_25 ?r0_25
    case w0_25 => kernel_rfl
    case y0_25 => (intro w hC; go_simp; try with_reducible rfl)
    case f0_25 => (go_simp; try with_reducible rfl)
    refine anyP_take (i := 1) (v := ?v1_26) (a' := ?a1_26) rfl (by kernel_rfl) (by kernel_rfl) (by kernel_rfl) (fun _ _ _ h => h) (by first | exact .inl hC | exact .inr (by kernel_rfl)) (by kernel_rfl) ?w1_26 ?y1_26 ?f1_26 ?r1_26
    case w1_26 => kernel_rfl
    case y1_26 => (intro w hC; go_simp; try with_reducible rfl)
    case f1_26 => (go_simp; try with_reducible rfl)
    refine anyP_take (i := 2) (v := ?v2_27) (a' := ?a2_27) rfl (by kernel_rfl) (by kernel_rfl) (by kernel_rfl) (fun _ _ _ h => h) (by first | exact .inl hC | exact .inr (by kernel_rfl)) (by kernel_rfl) ?w2_27 ?y2_27 ?f2_27 ?r2_27
    case w2_27 => kernel_rfl
    case y2_27 => (intro w hC; go_simp; try with_reducible rfl)
    case f2_27 => (go_simp; try with_reducible rfl)
    refine anyP_take (i := 3) (v := ?v3_28) (a' := ?a3_28) rfl (by kernel_rfl) (by kernel_rfl) (by kernel_rfl) (fun _ _ _ h => h) (by first | exact .inl hC | exact .inr (by kernel_rfl)) (by kernel_rfl) ?w3_28 ?y3_28 ?f3_28 ?r3_28
    case w3_28 => kernel_rfl
    case y3_28 => (intro w hC; go_simp; try with_reducible rfl)
    case f3_28 => (go_simp; try with_reducible rfl)
    refine anyP_take (i := 5) (v := ?v5_29) (a' := ?a5_29) rfl (by kernel_rfl) (by kernel_rfl) (by kernel_rfl) (fun _ _ _ h => h) (by first | exact .inl hC | exact .inr (by kernel_rfl)) (by kernel_rfl) ?w5_29 ?y5_29 ?f5_29 ?r5_29
    case w5_29 => kernel_rfl
    case y5_29 => (intro w hC; go_simp; try with_reducible rfl)
    case f5_29 => (go_simp; try with_reducible rfl)
    refine anyP_take (i := 6) (v := ?v6_30) (a' := ?a6_30) rfl (by kernel_rfl) (by kernel_rfl) (by kernel_rfl) (fun _ _ _ h => h) (by first | exact .inl hC | exact .inr (by kernel_rfl)) (by kernel_rfl) ?w6_30 ?y6_30 ?f6_30 ?r6_30
    case w6_30 => kernel_rfl
    case y6_30 => (intro w hC; go_simp; try with_reducible rfl)
    case f6_30 => (go_simp; try with_reducible rfl)
    refine anyP_take (i := 7) (v := ?v7_31) (a' := ?a7_31) rfl (by kernel_rfl) (by kernel_rfl) (by kernel_rfl) (fun _ _ _ h => h) (by first | exact .inl hC | exact .inr (by kernel_rfl)) (by kernel_rfl) ?w7_31 ?y7_31 ?f7_31 ?r7_31
    case w7_31 => kernel_rfl
    case y7_31 => (intro w hC; go_simp; try with_reducible rfl)
    case f7_31 => (go_simp; try with_reducible rfl)
    refine anyP_take (i := 9) (v := ?v9_32) (a' := ?a9_32) rfl (by kernel_rfl) (by kernel_rfl) (by kernel_rfl) (fun _ _ _ h => h) (by first | exact .inl hC | exact .inr (by kernel_rfl)) (by kernel_rfl) ?w9_32 ?y9_32 ?f9_32 ?r9_32
    case w9_32 => kernel_rfl
    case y9_32 => (intro w hC; go_simp; try with_reducible rfl)
    case f9_32 => (go_simp; try with_reducible rfl)
    refine anyF_take (i := 4) (v := ?v4_33) (a' := ?a4_33) rfl (by kernel_rfl) (by kernel_rfl) (by kernel_rfl) (fun _ _ _ h => h) hC (by kernel_rfl) ?w4_33 ?y4_33 ?f4_33 ?r4_33
    case w4_33 => kernel_rfl
    case y4_33 => (intro w hC; have h4 := ((HK.out w hC).at 0 rfl).1; go_simp; try with_reducible rfl)
    case f4_33 => (go_simp; try with_reducible rfl)
    refine anyF_take (i := 8) (v := ?v8_34) (a' := ?a8_34) rfl (by kernel_rfl) (by kernel_rfl) (by kernel_rfl) (fun _ _ _ h => h) hC (by kernel_rfl) ?w8_34 ?y8_34 ?f8_34 ?r8_34
    case w8_34 => kernel_rfl
    case y8_34 => (intro w hC; have h4 := ((HK.out w hC).at 1 rfl).1; go_simp; try with_reducible rfl)
    case f8_34 => (go_simp; try with_reducible rfl)
    refine anyP_take (i := 10) (v := ?v10_35) (a' := ?a10_35) rfl (by kernel_rfl) (by kernel_rfl) (by kernel_rfl) (fun _ _ _ h => h) (by first | exact .inl hC | exact .inr (by kernel_rfl)) (by kernel_rfl) ?w10_35 ?y10_35 ?f10_35 ?r10_35
    case w10_35 => kernel_rfl
    case y10_35 => (intro w hC; go_simp; try with_reducible rfl)
    case f10_35 => (go_simp; try with_reducible rfl)
    refine anyF_one (i := 11) rfl (by kernel_rfl) (by kernel_rfl) (fun K hK => ?_)
    refine op_app2 (.tmp 17) (.tmp 23) 29 rfl 0 5 i0 (.int .u8 0) 1 Tryd.underlying29 hi hz0 hz1 hz2 rfl kv s.kept.length (u8s s.kept) rfl (HK.out _ hC).kr w.heap.size Ac (Jm.part s n) cr (u8s (s.rest.take (Jm.part s n))) rfl (by rw [List.length_map]; exact hln) hrc (oneCell_ints _ _) (by unfold maxLen; omega) (by omega) (Nat.zero_le _) ?_
    intro v' w2 hown hgrow hblk
    obtain ⟨A3, c3, rfl, -, -, -⟩ := own_view hown
    have hown' : w2.ownsRow 0 5 1 (.slice A3 (s.kept.length + Jm.part s n) c3) (s.kept ++ s.rest.take (Jm.part s n)).length (u8s (s.kept ++ s.rest.take (Jm.part s n))) := by
      rw [List.length_append, hln, show u8s (s.kept ++ s.rest.take (Jm.part s n)) = u8s s.kept ++ u8s (s.rest.take (Jm.part s n)) from List.map_append]
      exact hown
    obtain ⟨⟨c0, f0⟩, ⟨c1, f1⟩, HS, HE⟩ := (HK.out _ hC).keeping hgrow hby hown' hblk
    obtain ⟨S', hS1, hS2⟩ := HS.out
    obtain ⟨⟨d0, g0⟩, ⟨d1, g1⟩, HX⟩ := HD.out _ S' _ hS1 HE.out.drew.2 hS2
    refine hK _ _ ⟨.inr (by kernel_rfl), ?_⟩
    clear hK K hown hown' hgrow hblk hrd hrc hsl hsl0 HK HD HS HE hS1 hS2
    refine anyP_take (i := 12) (v := ?v12_36) (a' := ?a12_36) rfl (by kernel_rfl) (by kernel_rfl) (by kernel_rfl) (fun _ _ _ h => h) (by first | exact .inl hC | exact .inr (by kernel_rfl)) (by kernel_rfl) ?w12_36 ?y12_36 ?f12_36 ?r12_36
    case w12_36 => kernel_rfl
    case y12_36 => (intro w hC; go_simp; try with_reducible rfl)
    case f12_36 => (go_simp; try with_reducible rfl)
    refine anyP_take (i := 13) (v := ?v13_37) (a' := ?a13_37) rfl (by kernel_rfl) (by kernel_rfl) (by kernel_rfl) (fun _ _ _ h => h) (by first | exact .inl hC | exact .inr (by kernel_rfl)) (by kernel_rfl) ?w13_37 ?y13_37 ?f13_37 ?r13_37
    case w13_37 => kernel_rfl
    case y13_37 => (intro w hC; go_simp; try with_reducible rfl)
    case f13_37 => (go_simp; try with_reducible rfl)
    refine anyF_one (i := 14) rfl (by kernel_rfl) (by kernel_rfl) (fun K hK => ?_)
    go_simp
    refine hK _ _ ⟨.inr (by kernel_rfl), ?_⟩
    clear hK K c0 f0
    refine anyF_done (by kernel_rfl) ?_
    go_wp2
    go_end0
    exact ⟨rfl, HX.out⟩
  · have hsl := hsl0 (n) (by rw [hp1]; (repeat' split) <;> omega)
    refine region_F (fun W => Below w.heap.size w W) (fun j => j == 11 || j == 14) (by kernel_rfl) ?_
    have hC : Below w.heap.size w w.drew := (Below.refl _ _).drew
    refine anyP_take (i := 0) (v := ?v0_38) (a' := ?a0_38) rfl (by kernel_rfl) (by kernel_rfl) (by kernel_rfl) (fun _ _ _ h => h) (by first | exact .inl hC | exact .inr (by kernel_rfl)) (by kernel_rfl) ?w0_38 ?y0_38 ?f0_38 ?r0_38
    case w0_38 => kernel_rfl
    case y0_38 => (intro w hC; go_simp; try with_reducible rfl)
    case f0_38 => (go_simp; try with_reducible rfl)
    refine anyP_take (i := 1) (v := ?v1_39) (a' := ?a1_39) rfl (by kernel_rfl) (by kernel_rfl) (by kernel_rfl) (fun _ _ _ h => h) (by first | exact .inl hC | exact .inr (by kernel_rfl)) (by kernel_rfl) ?w1_39 ?y1_39 ?f1_39 ?r1_39
    case w1_39 => kernel_rfl
    case y1_39 => (intro w hC; go_simp; try with_reducible rfl)
    case f1_39 => (go_simp; try with_reducible rfl)
    refine anyP_take (i := 2) (v := ?v2_40) (a' := ?a2_40) rfl (by kernel_rfl) (by kernel_rfl) (by kernel_rfl) (fun _ _ _ h => h) (by first | exact .inl hC | exact .inr (by kernel_rfl)) (by kernel_rfl) ?w2_40 ?y2_40 ?f2_40 ?r2_40
    case w2_40 => kernel_rfl
    case y2_40 => (intro w hC; go_simp; try with_reducible rfl)
    case f2_40 => (go_simp; try with_reducible rfl)
    refine anyP_take (i := 3) (v := ?v3_41) (a' := ?a3_41) rfl (by kernel_rfl) (by kernel_rfl) (by kernel_rfl) (fun _ _ _ h => h) (by first | exact .inl hC | exact .inr (by kernel_rfl)) (by kernel_rfl) ?w3_41 ?y3_41 ?f3_41 ?r3_41
    case w3_41 => kernel_rfl
    case y3_41 => (intro w hC; go_simp; try with_reducible rfl)
    case f3_41 => (go_simp; try with_reducible rfl)
    refine anyP_take (i := 5) (v := ?v5_42) (a' := ?a5_42) rfl (by kernel_rfl) (by kernel_rfl) (by kernel_rfl) (fun _ _ _ h => h) (by first | exact .inl hC | exact .inr (by kernel_rfl)) (by kernel_rfl) ?w5_42 ?y5_42 ?f5_42 ?r5_42
    case w5_42 => kernel_rfl
    case y5_42 => (intro w hC; go_simp; try with_reducible rfl)
    case f5_42 => (go_simp; try with_reducible rfl)
    refine anyP_take (i := 6) (v := ?v6_43) (a' := ?a6_43) rfl (by kernel_rfl) (by kernel_rfl) (by kernel_rfl) (fun _ _ _ h => h) (by first | exact .inl hC | exact .inr (by kernel_rfl)) (by kernel_rfl) ?w6_43 ?y6_43 ?f6_43 ?r6_43
    case w6_43 => kernel_rfl
    case y6_43 => (intro w hC; go_simp; try with_reducible rfl)
    case f6_43 => (go_simp; try with_reducible rfl)
    refine anyP_take (i := 7) (v := ?v7_44) (a' := ?a7_44) rfl (by kernel_rfl) (by kernel_rfl) (by kernel_rfl) (fun _ _ _ h => h) (by first | exact .inl hC | exact .inr (by kernel_rfl)) (by kernel_rfl) ?w7_44 ?y7_44 ?f7_44 ?r7_44
    case w7_44 => kernel_rfl
    case y7_44 => (intro w hC; go_simp; try with_reducible rfl)
    case f7_44 => (go_simp; try with_reducible rfl)
    refine anyP_take (i := 9) (v := ?v9_45) (a' := ?a9_45) rfl (by kernel_rfl) (by kernel_rfl) (by kernel_rfl) (fun _ _ _ h => h) (by first | exact .inl hC | exact .inr (by kernel_rfl)) (by kernel_rfl) ?w9_45 ?y9_45 ?f9_45 ?r9_45
    case w9_45 => kernel_rfl
    case y9_45 => (intro w hC; go_simp; try with_reducible rfl)
    case f9_45 => (go_simp; try with_reducible rfl)
    refine anyF_take (i := 4) (v := ?v4_46) (a' := ?a4_46) rfl (by kernel_rfl) (by kernel_rfl) (by kernel_rfl) (fun _ _ _ h => h) hC (by kernel_rfl) ?w4_46 ?y4_46 ?f4_46 ?r4_46
    case w4_46 => kernel_rfl
    case y4_46 => (intro w hC; have h4 := ((HK.out w hC).at 0 rfl).1; go_simp; try with_reducible rfl)
    case f4_46 => (go_simp; try with_reducible rfl)
    refine anyF_take (i := 8) (v := ?v8_47) (a' := ?a8_47) rfl (by kernel_rfl) (by kernel_rfl) (by kernel_rfl) (fun _ _ _ h => h) hC (by kernel_rfl) ?w8_47 ?y8_47 ?f8_47 ?r8_47
    case w8_47 => kernel_rfl
    case y8_47 => (intro w hC; have h4 := ((HK.out w hC).at 1 rfl).1; go_simp; try with_reducible rfl)
    case f8_47 => (go_simp; try with_reducible rfl)
    refine anyP_take (i := 10) (v := ?v10_48) (a' := ?a10_48) rfl (by kernel_rfl) (by kernel_rfl) (by kernel_rfl) (fun _ _ _ h => h) (by first | exact .inl hC | exact .inr (by kernel_rfl)) (by kernel_rfl) ?w10_48 ?y10_48 ?f10_48 ?r10_48
    case w10_48 => kernel_rfl
    case y10_48 => (intro w hC; go_simp; try with_reducible rfl)
    case f10_48 => (go_simp; try with_reducible rfl)
    refine anyF_one (i := 11) rfl (by kernel_rfl) (by kernel_rfl) (fun K hK => ?_)
    refine op_app2 (.tmp 17) (.tmp 23) 29 rfl 0 5 i0 (.int .u8 0) 1 Tryd.underlying29 hi hz0 hz1 hz2 rfl kv s.kept.length (u8s s.kept) rfl (HK.out _ hC).kr w.heap.size Ac (Jm.part s n) cr (u8s (s.rest.take (Jm.part s n))) rfl (by rw [List.length_map]; exact hln) hrc (oneCell_ints _ _) (by unfold maxLen; omega) (by omega) (Nat.zero_le _) ?_
    intro v' w2 hown hgrow hblk
    obtain ⟨A3, c3, rfl, -, -, -⟩ := own_view hown
    have hown' : w2.ownsRow 0 5 1 (.slice A3 (s.kept.length + Jm.part s n) c3) (s.kept ++ s.rest.take (Jm.part s n)).length (u8s (s.kept ++ s.rest.take (Jm.part s n))) := by
      rw [List.length_append, hln, show u8s (s.kept ++ s.rest.take (Jm.part s n)) = u8s s.kept ++ u8s (s.rest.take (Jm.part s n)) from List.map_append]
      exact hown
    obtain ⟨⟨c0, f0⟩, ⟨c1, f1⟩, HS, HE⟩ := (HK.out _ hC).keeping hgrow hby hown' hblk
    obtain ⟨S', hS1, hS2⟩ := HS.out
    obtain ⟨⟨d0, g0⟩, ⟨d1, g1⟩, HX⟩ := HD.out _ S' _ hS1 HE.out.drew.2 hS2
    refine hK _ _ ⟨.inr (by kernel_rfl), ?_⟩
    clear hK K hown hown' hgrow hblk hrd hrc hsl hsl0 HK HD HS HE hS1 hS2
    refine anyP_take (i := 12) (v := ?v12_49) (a' := ?a12_49) rfl (by kernel_rfl) (by kernel_rfl) (by kernel_rfl) (fun _ _ _ h => h) (by first | exact .inl hC | exact .inr (by kernel_rfl)) (by kernel_rfl) ?w12_49 ?y12_49 ?f12_49 ?r12_49
    case w12_49 => kernel_rfl
    case y12_49 => (intro w hC; go_simp; try with_reducible rfl)
    case f12_49 => (go_simp; try with_reducible rfl)
    refine anyP_take (i := 13) (v := ?v13_50) (a' := ?a13_50) rfl (by kernel_rfl) (by kernel_rfl) (by kernel_rfl) (fun _ _ _ h => h) (by first | exact .inl hC | exact .inr (by kernel_rfl)) (by kernel_rfl) ?w13_50 ?y13_50 ?f13_50 ?r13_50
    case w13_50 => kernel_rfl
    case y13_50 => (intro w hC; go_simp; try with_reducible rfl)
    case f13_50 => (go_simp; try with_reducible rfl)
    refine anyF_one (i := 14) rfl (by kernel_rfl) (by kernel_rfl) (fun K hK => ?_)
    go_simp
    refine hK _ _ ⟨.inr (by kernel_rfl), ?_⟩
    clear hK K c0 f0
    refine anyF_done (by kernel_rfl) ?_
    go_wp2
    go_end0
    exact ⟨rfl, HX.out⟩
end
end Go.Proofs.YtgpagddaopgdgaaDoor
