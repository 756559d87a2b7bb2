/- What a journal's effects do: the program's closures. -/
import Derived.Test.YtgpagddaopgdgaaDoorJk
namespace Go.Proofs.YtgpagddaopgdgaaDoor
open Go.RowKit Go.Shelf Km

section
variable {w w' w'' : World} {S : Nat → Prop} {g : Nat} {s s' : Jm.St} {kv rv : Value}

theorem Did.pre (d : Did S w' w'' g s) (hb : Below w.heap.size w w') : Did S w w'' g s := by
  obtain ⟨⟨kv, rv, k⟩, o⟩ := d
  refine ⟨⟨kv, rv, k.more (fun b q => q.imp id fun q => ⟨Nat.le_trans hb.size q.1, q.2⟩) fun b q => ?_⟩, (Out.below hb).trans (o.more fun _ q => .inl q)⟩
  rcases q with q | q
  · exact k.lt b (.inl q)
  · exact q.2
/-- what lies above the owner's blocks stays -/
theorem own_out {base : Nat} {e : TypeId} {v : Value} {n : Nat} {xs : List Value} (h : w.ownsRow base e 1 v n xs) (ho : Out S w w') (hS : ∀ b, S b → b < base) : w'.ownsRow base e 1 v n xs :=
  own_same h fun q eq => ho.block q (h.lt q eq).2 (fun r => by have := hS q r; have := (h.lt q eq).1; omega)
theorem cell_out {b j : Nat} {v : Value} (h : w.cell? ⟨b, j, none⟩ = some v) (ho : Out S w w') (hS : ¬ S b) : w'.cell? ⟨b, j, none⟩ = some v :=
  (World.cell?_of_block (ho.block b (World.block_lt_of_cell? w _ h) hS)).trans h
theorem cutA_zero (g c : Nat) : cutA (some ⟨g, 0, none⟩) 0 c = some ⟨g, 0, none⟩ := by
  unfold cutA
  split
  · rfl
  · simp [Addr.add]
theorem own_cut {base : Nat} {e : TypeId} {A : Option Addr} {c n : Nat} {xs : List Value} (h : w.ownsRow base e 1 (.slice A n c) n xs) {m : Nat} (hm : m ≤ n) : w.ownsRow base e 1 (.slice (cutA A 0 c) m c) m (xs.take m) ∧ (Value.slice (cutA A 0 c) m c).ownBlock = (Value.slice A n c).ownBlock := by
  rcases h.2 with ⟨e1, e2⟩ | ⟨q, cap, cur, e1, h1, h2, h3, h4, h5, h6⟩
  · injection e1 with e1 e3 e4
    subst e1 e4
    have hm0 : m = 0 := by omega
    subst hm0
    rw [show cutA none 0 0 = none from rfl, List.take_zero]
    exact ⟨World.ownsRow_nil _ _ _ _, rfl⟩
  · injection e1 with e1 e3 e4
    subst e1 e4
    rw [cutA_zero]
    refine ⟨⟨by have := h.1; rw [List.length_take]; omega, .inr ⟨q, c, cur, rfl, h1, h2, by omega, h4, h5, ?_⟩⟩, rfl⟩
    rw [← h6, List.take_take]
    congr 1
    omega

/-- the tail's row grown and stored -/
theorem JAt.adding (h : JAt w S g s kv rv) (hg : w.grownBy w' rv.ownBlock) {b : List Int} (hb : Fm.By b) {v' : Value} (hown : w'.ownsRow 0 5 1 v' (s.rest ++ b).length (u8s (s.rest ++ b)))
    (hone : v'.ownBlock = rv.ownBlock ∨ v'.ownBlock = some w.heap.size) :
    (w'.cell? ⟨g, 1, none⟩ = some rv ∧ w'.frozen? ⟨g, 1, none⟩ = false) ∧ Hid (Did S w (w'.setCell ⟨g, 1, none⟩ v') g { s with rest := s.rest ++ b }) := by
  have hgl := h.lt g h.sg
  have kg : w'.heap[g]? = w.heap[g]? := hg.block g hgl (fun e => (h.rS g e.symm).2 rfl)
  obtain ⟨c0, f0⟩ := h.at 1 rfl
  obtain ⟨k1, o1⟩ := h.rest hg hb hown hone
  exact ⟨⟨(World.cell?_of_block kg).trans c0, (World.frozen?_of_block kg).trans f0⟩, ⟨_, _, k1.at_set⟩, o1⟩
/-- the synced bytes cut short -/
theorem JAt.cut {A : Option Addr} {c : Nat} (h : JAt w S g s (.slice A s.kept.length c) rv) {m : Nat} (hm : m ≤ s.kept.length) : JAt (w.setCell ⟨g, 0, none⟩ (.slice (cutA A 0 c) m c)) S g { s with kept := s.kept.take m } (.slice (cutA A 0 c) m c) rv := by
  obtain ⟨h1, h2⟩ := own_cut h.kr hm
  refine h.set 0 _ (by decide) rfl ?_ h.rr (fun b e => h.kS b (h2 ▸ e)) h.rS (fun b e => h.k2 b (h2 ▸ e)) ⟨h.ok.k.take m, h.ok.r, h.ok.lo, h.ok.hi⟩
  have hl : (s.kept.take m).length = m := by rw [List.length_take]; omega
  show World.ownsRow _ _ _ _ _ (s.kept.take m).length (u8s (s.kept.take m))
  rw [hl, show u8s (s.kept.take m) = (u8s s.kept).take m from List.map_take]
  exact h1

set_option maxRecDepth 100000 in
set_option maxHeartbeats 2000000 in
theorem syncs_any (h : JAt w S g s kv rv) {B : Nat} (hB : w.cell? ⟨B, 0, none⟩ = some (.pointer (some ⟨g, 0, none⟩))) (hz : Jm.size s ≤ 16777216) :
    Calls Tryd.prog 32 #[.pointer (some ⟨B, 0, none⟩)] w fun e w' => e = .returned (.tuple #[]) ∧ Did S w w' g { s with kept := s.kept ++ s.rest, rest := [] } := by
  obtain ⟨Ar, cr, rfl, hr1, hr2, hrd, -⟩ := own_view0 h.rr
  have HJ := Lib.hid (fun (W : World) (q : Below w.heap.size w W) => h.below q)
  have hBl := World.block_lt_of_cell? w _ hB
  have HB := Lib.hid (fun (W : World) (q : Below w.heap.size w W) => (q.cell (p := ⟨B, 0, none⟩) hBl).trans hB)
  have HC := Lib.hid (keep_any h.drew s.rest.length (Nat.le_refl _) hz)
  clear h hr1 hr2 hrd hB hBl
  go_enter Tryd.func32, Tryd.ntmps32
  go_wp2_with fail
  refine region_F (fun W => Below w.heap.size w W) (fun j => j == 6) (by kernel_rfl) ?_
  have hC : Below w.heap.size w w.drew := (Below.refl _ _).drew
  refine anyF_take (i := 0) (v := ?v0_1) (a' := ?a0_1) rfl (by kernel_rfl) (by kernel_rfl) (by kernel_rfl) (fun _ _ _ h => h) hC (by kernel_rfl) ?w0_1 ?y0_1 ?f0_1 ?r0_1
  case w0_1 => kernel_rfl
  case y0_1 => (intro w hC; have h4 := HB.out w hC; go_simp; try with_reducible rfl)
  case f0_1 => (go_simp; try with_reducible rfl)
  refine anyF_take (i := 1) (v := ?v1_2) (a' := ?a1_2) rfl (by kernel_rfl) (by kernel_rfl) (by kernel_rfl) (fun _ _ _ h => h) hC (by kernel_rfl) ?w1_2 ?y1_2 ?f1_2 ?r1_2
  case w1_2 => kernel_rfl
  case y1_2 => (intro w hC; have h4 := HB.out w hC; go_simp; try with_reducible rfl)
  case f1_2 => (go_simp; try with_reducible rfl)
  refine anyP_take (i := 2) (v := ?v2_3) (a' := ?a2_3) rfl (by kernel_rfl) (by kernel_rfl) (by kernel_rfl) (fun _ _ _ h => h) (by first | exact .inl hC | exact .inr (by kernel_rfl)) (by kernel_rfl) ?w2_3 ?y2_3 ?f2_3 ?r2_3
  case w2_3 => kernel_rfl
  case y2_3 => (intro w hC; go_simp; try with_reducible rfl)
  case f2_3 => (go_simp; try with_reducible rfl)
  refine anyP_take (i := 3) (v := ?v3_4) (a' := ?a3_4) rfl (by kernel_rfl) (by kernel_rfl) (by kernel_rfl) (fun _ _ _ h => h) (by first | exact .inl hC | exact .inr (by kernel_rfl)) (by kernel_rfl) ?w3_4 ?y3_4 ?f3_4 ?r3_4
  case w3_4 => kernel_rfl
  case y3_4 => (intro w hC; go_simp; try with_reducible rfl)
  case f3_4 => (go_simp; try with_reducible rfl)
  refine anyF_take (i := 4) (v := ?v4_5) (a' := ?a4_5) rfl (by kernel_rfl) (by kernel_rfl) (by kernel_rfl) (fun _ _ _ h => h) hC (by kernel_rfl) ?w4_5 ?y4_5 ?f4_5 ?r4_5
  case w4_5 => kernel_rfl
  case y4_5 => (intro w hC; have h4 := ((HJ.out w hC).at 1 rfl).1; go_simp; try with_reducible rfl)
  case f4_5 => (go_simp; try with_reducible rfl)
  refine anyP_take (i := 5) (v := ?v5_6) (a' := ?a5_6) rfl (by kernel_rfl) (by kernel_rfl) (by kernel_rfl) (fun _ _ _ h => h) (by first | exact .inl hC | exact .inr (by kernel_rfl)) (by kernel_rfl) ?w5_6 ?y5_6 ?f5_6 ?r5_6
  case w5_6 => kernel_rfl
  case y5_6 => (intro w hC; go_simp; try with_reducible rfl)
  case f5_6 => (go_simp; try with_reducible rfl)
  refine anyF_one (i := 6) rfl (by kernel_rfl) (by kernel_rfl) (fun K hK => ?_)
  go_simp
  refine HC.out.mono ?_
  rintro e w2 ⟨rfl, hd⟩
  refine hK _ _ ⟨.inr (by kernel_rfl), ?_⟩
  refine anyF_done (by kernel_rfl) ?_
  go_wp2
  go_end0
  rw [List.take_length] at hd
  exact ⟨rfl, hd.drew⟩

set_option maxRecDepth 100000 in
set_option maxHeartbeats 2000000 in
theorem appends_any (h : JAt w S g s kv rv) {B D base : Nat} {v : Value} {b : List Int} (hB : w.cell? ⟨B, 0, none⟩ = some (.pointer (some ⟨g, 0, none⟩))) (nB : ¬ S B) (hD : w.cell? ⟨D, 0, none⟩ = some v) (nD : ¬ S D)
    (hv : w.ownsRow base 5 1 v b.length (u8s b)) (hb : Fm.By b) (hl : b.length ≤ 16777216) (hz : Jm.size s ≤ 16777216) :
    Calls Tryd.prog 31 #[.pointer (some ⟨B, 0, none⟩), .pointer (some ⟨D, 0, none⟩)] w fun e w' => e = .returned (.tuple #[]) ∧ Did S w w' g { s with rest := s.rest ++ b } := by
  obtain ⟨i0, hi, hz0, hz1, hz2⟩ := info_parts info_u8
  unfold Jm.size at hz
  obtain ⟨Av, cv, rfl, hv1, hv2, hvd, -⟩ := own_view0 hv
  have hBl := World.block_lt_of_cell? w _ hB
  have hDl := World.block_lt_of_cell? w _ hD
  have hgl := h.lt g h.sg
  have hR : w.drew.cell? ⟨g, 1, none⟩ = some rv := (h.drew.at 1 rfl).1
  have HJ := Lib.hid h.drew
  have hB' : w.drew.cell? ⟨B, 0, none⟩ = some (.pointer (some ⟨g, 0, none⟩)) := hB
  have hD' : w.drew.cell? ⟨D, 0, none⟩ = some (.slice Av b.length cv) := hD
  have hvd' : Rd w.drew w.heap.size Av (u8s b) := hvd
  have hsd : w.drew.heap.size = w.heap.size := rfl
  have rS := h.rS
  clear hB hD hvd hv
  go_enter Tryd.func31, Tryd.ntmps31
  go_wp2_with fail
  refine region_F (fun W => W.cell? ⟨B, 0, none⟩ = some (.pointer (some ⟨g, 0, none⟩)) ∧ W.cell? ⟨g, 1, none⟩ = some rv ∧ W.cell? ⟨D, 0, none⟩ = some (.slice Av b.length cv)) (fun j => j == 9) (by kernel_rfl) ?_
  have hC : w.drew.cell? ⟨B, 0, none⟩ = some (.pointer (some ⟨g, 0, none⟩)) ∧ w.drew.cell? ⟨g, 1, none⟩ = some rv ∧ w.drew.cell? ⟨D, 0, none⟩ = some (.slice Av b.length cv) := ⟨hB', hR, hD'⟩
  refine anyF_take (i := 0) (v := ?v0_7) (a' := ?a0_7) rfl (by kernel_rfl) (by kernel_rfl) (by kernel_rfl) (fun _ _ _ h => h) hC (by kernel_rfl) ?w0_7 ?y0_7 ?f0_7 ?r0_7
  case w0_7 => kernel_rfl
  case y0_7 => (intro w hC; have h4 := hC.1; go_simp; try with_reducible rfl)
  case f0_7 => (go_simp; try with_reducible rfl)
  refine anyF_take (i := 1) (v := ?v1_8) (a' := ?a1_8) rfl (by kernel_rfl) (by kernel_rfl) (by kernel_rfl) (fun _ _ _ h => h) hC (by kernel_rfl) ?w1_8 ?y1_8 ?f1_8 ?r1_8
  case w1_8 => kernel_rfl
  case y1_8 => (intro w hC; have h4 := hC.1; go_simp; try with_reducible rfl)
  case f1_8 => (go_simp; try with_reducible rfl)
  refine anyP_take (i := 2) (v := ?v2_9) (a' := ?a2_9) rfl (by kernel_rfl) (by kernel_rfl) (by kernel_rfl) (fun _ _ _ h => h) (by first | exact .inl hC | exact .inr (by kernel_rfl)) (by kernel_rfl) ?w2_9 ?y2_9 ?f2_9 ?r2_9
  case w2_9 => kernel_rfl
  case y2_9 => (intro w hC; go_simp; try with_reducible rfl)
  case f2_9 => (go_simp; try with_reducible rfl)
  refine anyP_take (i := 3) (v := ?v3_10) (a' := ?a3_10) rfl (by kernel_rfl) (by kernel_rfl) (by kernel_rfl) (fun _ _ _ h => h) (by first | exact .inl hC | exact .inr (by kernel_rfl)) (by kernel_rfl) ?w3_10 ?y3_10 ?f3_10 ?r3_10
  case w3_10 => kernel_rfl
  case y3_10 => (intro w hC; go_simp; try with_reducible rfl)
  case f3_10 => (go_simp; try with_reducible rfl)
  refine anyF_take (i := 4) (v := ?v4_11) (a' := ?a4_11) rfl (by kernel_rfl) (by kernel_rfl) (by kernel_rfl) (fun _ _ _ h => h) hC (by kernel_rfl) ?w4_11 ?y4_11 ?f4_11 ?r4_11
  case w4_11 => kernel_rfl
  case y4_11 => (intro w hC; have h4 := hC.2.1; go_simp; try with_reducible rfl)
  case f4_11 => (go_simp; try with_reducible rfl)
  refine anyF_take (i := 5) (v := ?v5_12) (a' := ?a5_12) rfl (by kernel_rfl) (by kernel_rfl) (by kernel_rfl) (fun _ _ _ h => h) hC (by kernel_rfl) ?w5_12 ?y5_12 ?f5_12 ?r5_12
  case w5_12 => kernel_rfl
  case y5_12 => (intro w hC; have h4 := hC.2.2; go_simp; try with_reducible rfl)
  case f5_12 => (go_simp; try with_reducible rfl)
  refine anyF_one (i := 6) rfl (by kernel_rfl) (by kernel_rfl) (fun K hK => ?_)
  refine op_app2 (.tmp 6) (.tmp 7) 29 rfl 0 5 i0 (.int .u8 0) 1 Tryd.underlying29 hi hz0 hz1 hz2 rfl rv s.rest.length (u8s s.rest) rfl HJ.out.rr w.heap.size Av b.length cv (u8s b) rfl (by rw [List.length_map]) hvd' (oneCell_ints _ _) (by unfold maxLen; omega) (by omega) (Nat.zero_le _) ?_
  intro v' w2 hown hgrow hblk
  obtain ⟨A3, c3, rfl, -, -, -⟩ := own_view hown
  have hown' : w2.ownsRow 0 5 1 (.slice A3 (s.rest.length + b.length) c3) (s.rest ++ b).length (u8s (s.rest ++ b)) := by
    rw [List.length_append, show u8s (s.rest ++ b) = u8s s.rest ++ u8s b from List.map_append]
    exact hown
  obtain ⟨⟨c1, f1⟩, HD⟩ := HJ.out.adding hgrow hb hown' hblk
  have hC2 : w2.cell? ⟨B, 0, none⟩ = some (.pointer (some ⟨g, 0, none⟩)) ∧ w2.cell? ⟨g, 1, none⟩ = some rv ∧ w2.cell? ⟨D, 0, none⟩ = some (.slice Av b.length cv) :=
    ⟨hgrow.cell hC.1 (fun e => nB (rS _ e.symm).1), c1, hgrow.cell hC.2.2 (fun e => nD (rS _ e.symm).1)⟩
  refine hK _ _ ⟨.inl hC2, ?_⟩
  clear hK K hown hown' hgrow hblk h hvd' HJ hC hR hB' hD' rS
  refine anyP_take (i := 7) (v := ?v7_13) (a' := ?a7_13) rfl (by kernel_rfl) (by kernel_rfl) (by kernel_rfl) (fun _ _ _ h => h) (by first | exact .inl hC2 | exact .inr (by kernel_rfl)) (by kernel_rfl) ?w7_13 ?y7_13 ?f7_13 ?r7_13
  case w7_13 => kernel_rfl
  case y7_13 => (intro w hC; go_simp; try with_reducible rfl)
  case f7_13 => (go_simp; try with_reducible rfl)
  refine anyP_take (i := 8) (v := ?v8_14) (a' := ?a8_14) rfl (by kernel_rfl) (by kernel_rfl) (by kernel_rfl) (fun _ _ _ h => h) (by first | exact .inl hC2 | exact .inr (by kernel_rfl)) (by kernel_rfl) ?w8_14 ?y8_14 ?f8_14 ?r8_14
  case w8_14 => kernel_rfl
  case y8_14 => (intro w hC; go_simp; try with_reducible rfl)
  case f8_14 => (go_simp; try with_reducible rfl)
  refine anyF_one (i := 9) rfl (by kernel_rfl) (by kernel_rfl) (fun K hK => ?_)
  go_simp
  refine hK _ _ ⟨.inr (by kernel_rfl), ?_⟩
  clear hK K c1 f1 hC2
  refine anyF_done (by kernel_rfl) ?_
  go_wp2
  go_end0
  exact ⟨rfl, HD.out.drew⟩

set_option maxRecDepth 100000 in
set_option maxHeartbeats 2000000 in
theorem opens_any (h : JAt w S g s kv rv) {B D m : Nat} (hB : w.cell? ⟨B, 0, none⟩ = some (.pointer (some ⟨g, 0, none⟩))) (hD : w.cell? ⟨D, 0, none⟩ = some (.int .i64 (m : Int))) (hm : m ≤ s.kept.length) :
    Calls Tryd.prog 37 #[.pointer (some ⟨B, 0, none⟩), .pointer (some ⟨D, 0, none⟩)] w fun e w' => e = .returned (.tuple #[]) ∧ Jat w' S g { s with kept := s.kept.take m } ∧ Out S w w' := by
  obtain ⟨i0, hi, hz0, hz1, hz2⟩ := info_parts info_u8
  obtain ⟨Ar, cr, rfl, hr1, hr2, hrd, -⟩ := own_view0 h.kr
  have hsl : ∀ W, (Instr.slice 29 (.slice Ar s.kept.length cr) none (some (.int .i64 (m : Int))) none).run Tryd.prog W = .ok (.slice (cutA Ar 0 cr) m cr) W := fun W => run_cut_h (P := Tryd.prog) Tryd.underlying29 (size_of_info hi hz1) Ar s.kept.length cr m (by omega) W
  have HJ := Lib.hid (fun (W : World) (q : Below w.heap.size w W) => h.below q)
  have hBl := World.block_lt_of_cell? w _ hB
  have HB := Lib.hid (fun (W : World) (q : Below w.heap.size w W) => (q.cell (p := ⟨B, 0, none⟩) hBl).trans hB)
  have hDl := World.block_lt_of_cell? w _ hD
  have HD := Lib.hid (fun (W : World) (q : Below w.heap.size w W) => (q.cell (p := ⟨D, 0, none⟩) hDl).trans hD)
  have HX := Lib.hid (fun (u : Value) (hu : .slice (cutA Ar 0 cr) m cr = u) => by have k := h.drew.cut hm; rw [hu] at k; exact (⟨⟨_, _, k⟩, (show Out S w _ from ⟨rfl, rfl, rfl, (h.drew.setOut 0 u).size, (h.drew.setOut 0 u).block⟩)⟩ : Jat (w.drew.setCell ⟨g, 0, none⟩ u) S g { s with kept := s.kept.take m } ∧ Out S w (w.drew.setCell ⟨g, 0, none⟩ u)))
  obtain ⟨c0, f0⟩ := h.drew.at 0 rfl
  clear hB hBl hD hDl hrd h
  generalize cutA Ar 0 cr = Ac at hsl HX
  go_enter Tryd.func37, Tryd.ntmps37
  go_wp2_with fail
  refine region_F (fun W => Below w.heap.size w W) (fun j => j == 9) (by kernel_rfl) ?_
  have hC : Below w.heap.size w w.drew := (Below.refl _ _).drew
  refine anyF_take (i := 0) (v := ?v0_15) (a' := ?a0_15) rfl (by kernel_rfl) (by kernel_rfl) (by kernel_rfl) (fun _ _ _ h => h) hC (by kernel_rfl) ?w0_15 ?y0_15 ?f0_15 ?r0_15
  case w0_15 => kernel_rfl
  case y0_15 => (intro w hC; have h4 := HB.out w hC; go_simp; try with_reducible rfl)
  case f0_15 => (go_simp; try with_reducible rfl)
  refine anyF_take (i := 1) (v := ?v1_16) (a' := ?a1_16) rfl (by kernel_rfl) (by kernel_rfl) (by kernel_rfl) (fun _ _ _ h => h) hC (by kernel_rfl) ?w1_16 ?y1_16 ?f1_16 ?r1_16
  case w1_16 => kernel_rfl
  case y1_16 => (intro w hC; have h4 := HB.out w hC; go_simp; try with_reducible rfl)
  case f1_16 => (go_simp; try with_reducible rfl)
  refine anyP_take (i := 2) (v := ?v2_17) (a' := ?a2_17) rfl (by kernel_rfl) (by kernel_rfl) (by kernel_rfl) (fun _ _ _ h => h) (by first | exact .inl hC | exact .inr (by kernel_rfl)) (by kernel_rfl) ?w2_17 ?y2_17 ?f2_17 ?r2_17
  case w2_17 => kernel_rfl
  case y2_17 => (intro w hC; go_simp; try with_reducible rfl)
  case f2_17 => (go_simp; try with_reducible rfl)
  refine anyP_take (i := 3) (v := ?v3_18) (a' := ?a3_18) rfl (by kernel_rfl) (by kernel_rfl) (by kernel_rfl) (fun _ _ _ h => h) (by first | exact .inl hC | exact .inr (by kernel_rfl)) (by kernel_rfl) ?w3_18 ?y3_18 ?f3_18 ?r3_18
  case w3_18 => kernel_rfl
  case y3_18 => (intro w hC; go_simp; try with_reducible rfl)
  case f3_18 => (go_simp; try with_reducible rfl)
  refine anyF_take (i := 4) (v := ?v4_19) (a' := ?a4_19) rfl (by kernel_rfl) (by kernel_rfl) (by kernel_rfl) (fun _ _ _ h => h) hC (by kernel_rfl) ?w4_19 ?y4_19 ?f4_19 ?r4_19
  case w4_19 => kernel_rfl
  case y4_19 => (intro w hC; have h4 := ((HJ.out w hC).at 0 rfl).1; go_simp; try with_reducible rfl)
  case f4_19 => (go_simp; try with_reducible rfl)
  refine anyF_take (i := 5) (v := ?v5_20) (a' := ?a5_20) rfl (by kernel_rfl) (by kernel_rfl) (by kernel_rfl) (fun _ _ _ h => h) hC (by kernel_rfl) ?w5_20 ?y5_20 ?f5_20 ?r5_20
  case w5_20 => kernel_rfl
  case y5_20 => (intro w hC; have h4 := HD.out w hC; go_simp; try with_reducible rfl)
  case f5_20 => (go_simp; try with_reducible rfl)
  refine anyP_take (i := 6) (v := ?v6_21) (a' := ?a6_21) rfl (by kernel_rfl) (by kernel_rfl) (by kernel_rfl) (fun _ _ _ h => h) (by first | exact .inl hC | exact .inr (by kernel_rfl)) (by kernel_rfl) ?w6_21 ?y6_21 ?f6_21 ?r6_21
  case w6_21 => kernel_rfl
  case y6_21 => (intro w hC; go_simp; try with_reducible rfl)
  case f6_21 => (go_simp; try with_reducible rfl)
  refine anyP_take (i := 7) (v := ?v7_22) (a' := ?a7_22) rfl (by kernel_rfl) (by kernel_rfl) (by kernel_rfl) (fun _ _ _ h => h) (by first | exact .inl hC | exact .inr (by kernel_rfl)) (by kernel_rfl) ?w7_22 ?y7_22 ?f7_22 ?r7_22
  case w7_22 => kernel_rfl
  case y7_22 => (intro w hC; go_simp; try with_reducible rfl)
  case f7_22 => (go_simp; try with_reducible rfl)
  refine anyP_take (i := 8) (v := ?v8_23) (a' := ?a8_23) rfl (by kernel_rfl) (by kernel_rfl) (by kernel_rfl) (fun _ _ _ h => h) (by first | exact .inl hC | exact .inr (by kernel_rfl)) (by kernel_rfl) ?w8_23 ?y8_23 ?f8_23 ?r8_23
  case w8_23 => kernel_rfl
  case y8_23 => (intro w hC; go_simp; try with_reducible rfl)
  case f8_23 => (go_simp; try with_reducible rfl)
  refine anyF_one (i := 9) rfl (by kernel_rfl) (by kernel_rfl) (fun K hK => ?_)
  go_simp
  refine hK _ _ ⟨.inr (by kernel_rfl), ?_⟩
  clear hK K c0 f0
  refine anyF_done (by kernel_rfl) ?_
  go_wp2
  go_end0
  exact ⟨rfl, HX.out _ rfl⟩
end
end Go.Proofs.YtgpagddaopgdgaaDoor
