/- A journal's bytes moved: what is kept, and what its effects do. -/
import Derived.Test.YtgpagddaopgdgaaDoorJi
import Derived.Test.YtgpagddaopgdgaaDoorKitH
namespace Go.Proofs.YtgpagddaopgdgaaDoor
open Go.RowKit Go.Shelf Km

/-- behind a call of the owner's: the journal in its blocks and new ones, and all else as it was -/
def Did (S : Nat → Prop) (w w' : World) (g : Nat) (s : Jm.St) : Prop := Jat w' (Sx S w w') g s ∧ Out S w w'

section
variable {w w' w'' : World} {S : Nat → Prop} {g : Nat} {s s' : Jm.St} {kv rv : Value}

theorem Did.of (k : JAt w' S g s' kv rv) (o : Out S w w') : Did S w w' g s' := ⟨⟨_, _, k.sx⟩, o⟩
theorem Did.trans (h : Did S w w' g s) (k : Did (Sx S w w') w' w'' g s') : Did S w w'' g s' := by
  obtain ⟨k1, k2⟩ := k
  rw [Sx.trans h.2.size k2.size] at k1
  exact ⟨k1, h.2.trans k2⟩
theorem JAt.drew (h : JAt w S g s kv rv) : JAt w.drew S g s kv rv := h.same (fun _ _ => rfl) (Nat.le_refl _)
theorem Did.drew (h : Did S w.drew w' g s) : Did S w w' g s := ⟨h.1, h.2.os, h.2.tape, h.2.output, h.2.size, h.2.block⟩

theorem set_size (W : World) (p : Addr) (v : Value) : (W.setCell p v).heap.size = W.heap.size := by
  unfold World.setCell
  split <;> simp
/-- the synced bytes' row grown and stored: what the cells hold then, and, with the tail's cell struck, the journal -/
theorem JAt.keeping (h : JAt w S g s kv rv) (hg : w.grownBy w' kv.ownBlock) {b : List Int} (hb : Fm.By b) {v' : Value} (hown : w'.ownsRow 0 5 1 v' (s.kept ++ b).length (u8s (s.kept ++ b)))
    (hone : v'.ownBlock = kv.ownBlock ∨ v'.ownBlock = some w.heap.size) :
    (w'.cell? ⟨g, 0, none⟩ = some kv ∧ w'.frozen? ⟨g, 0, none⟩ = false) ∧ ((w'.setCell ⟨g, 0, none⟩ v').cell? ⟨g, 1, none⟩ = some rv ∧ (w'.setCell ⟨g, 0, none⟩ v').frozen? ⟨g, 1, none⟩ = false) ∧
      Hid (∃ S' : Nat → Prop, (∀ b, S' b → Sx S w ((w'.setCell ⟨g, 0, none⟩ v').setCell ⟨g, 1, none⟩ (.slice none 0 0)) b) ∧ JAt ((w'.setCell ⟨g, 0, none⟩ v').setCell ⟨g, 1, none⟩ (.slice none 0 0)) S' g { s with kept := s.kept ++ b, rest := [] } v' (.slice none 0 0)) ∧
      Hid (Did S w ((w'.setCell ⟨g, 0, none⟩ v').setCell ⟨g, 1, none⟩ (.slice none 0 0)) g { s with kept := s.kept ++ b, rest := [] }) := by
  have hgl := h.lt g h.sg
  have kg : w'.heap[g]? = w.heap[g]? := hg.block g hgl (fun e => (h.kS g e.symm).2 rfl)
  obtain ⟨c0, f0⟩ := h.at 0 rfl
  obtain ⟨k1, o1⟩ := h.kept hg hb hown hone
  have k2 := k1.norest
  have o2 := k1.setOut 1 (.slice none 0 0)
  have hs : ∀ b, Sx S w w' b → Sx S w (w'.setCell ⟨g, 0, none⟩ v') b := fun b q => q.imp id fun q => ⟨q.1, by rw [set_size]; exact q.2⟩
  have hs2 : ∀ b, Sx S w w' b → Sx S w ((w'.setCell ⟨g, 0, none⟩ v').setCell ⟨g, 1, none⟩ (.slice none 0 0)) b := fun b q => q.imp id fun q => ⟨q.1, by rw [set_size, set_size]; exact q.2⟩
  refine ⟨⟨(World.cell?_of_block kg).trans c0, (World.frozen?_of_block kg).trans f0⟩, k1.at 1 rfl, ⟨_, hs2, k2⟩, ⟨_, _, k2.more hs2 fun b q => ?_⟩, o1.trans (o2.more hs)⟩
  rcases q with q | q
  · exact k2.lt b (.inl q)
  · exact q.2

set_option maxRecDepth 100000 in
set_option maxHeartbeats 2000000 in
theorem keep_any (h : JAt w S g s kv rv) (n : Nat) (hn : n ≤ s.rest.length) (hz : Jm.size s ≤ 16777216) :
    Calls Tryd.prog 33 #[.pointer (some ⟨g, 0, none⟩), .int .i64 (n : Int)] w fun e w' => e = .returned (.tuple #[]) ∧ Did S w w' g { s with kept := s.kept ++ s.rest.take n, rest := [] } := by
  obtain ⟨i0, hi, hz0, hz1, hz2⟩ := info_parts info_u8
  obtain ⟨Ar, cr, rfl, hr1, hr2, hrd, -⟩ := own_view0 h.rr
  have hsl : ∀ W, (Instr.slice 29 (.slice Ar s.rest.length cr) none (some (.int .i64 (n : Int))) none).run Tryd.prog W = .ok (.slice (cutA Ar 0 cr) n cr) W := fun W => run_cut_h (P := Tryd.prog) Tryd.underlying29 (size_of_info hi hz1) Ar s.rest.length cr n (by omega) W
  have hrc := rd_cut0 (n := n) hrd hr1
  have hln : (u8s (s.rest.take n)).length = n := by rw [List.length_map, List.length_take]; omega
  generalize cutA Ar 0 cr = Ac at hsl hrc
  unfold Jm.size at hz
  have HJ := Lib.hid (fun (W : World) (q : Below w.heap.size w W) => h.below q)
  go_enter Tryd.func33, Tryd.ntmps33
  go_wp2_with fail
  refine region_F (fun W => Below w.heap.size w W) (fun j => j == 11 || j == 14) (by kernel_rfl) ?_
  have hC : Below w.heap.size w w.drew := (Below.refl _ _).drew
  refine anyP_take (i := 0) (v := ?v0_1) (a' := ?a0_1) rfl (by kernel_rfl) (by kernel_rfl) (by kernel_rfl) (fun _ _ _ h => h) (by first | exact .inl hC | exact .inr (by kernel_rfl)) (by kernel_rfl) ?w0_1 ?y0_1 ?f0_1 ?r0_1
  case w0_1 => kernel_rfl
  case y0_1 => (intro w hC; go_simp; try with_reducible rfl)
  case f0_1 => (go_simp; try with_reducible rfl)
  refine anyP_take (i := 1) (v := ?v1_2) (a' := ?a1_2) rfl (by kernel_rfl) (by kernel_rfl) (by kernel_rfl) (fun _ _ _ h => h) (by first | exact .inl hC | exact .inr (by kernel_rfl)) (by kernel_rfl) ?w1_2 ?y1_2 ?f1_2 ?r1_2
  case w1_2 => kernel_rfl
  case y1_2 => (intro w hC; go_simp; try with_reducible rfl)
  case f1_2 => (go_simp; try with_reducible rfl)
  refine anyP_take (i := 2) (v := ?v2_3) (a' := ?a2_3) rfl (by kernel_rfl) (by kernel_rfl) (by kernel_rfl) (fun _ _ _ h => h) (by first | exact .inl hC | exact .inr (by kernel_rfl)) (by kernel_rfl) ?w2_3 ?y2_3 ?f2_3 ?r2_3
  case w2_3 => kernel_rfl
  case y2_3 => (intro w hC; go_simp; try with_reducible rfl)
  case f2_3 => (go_simp; try with_reducible rfl)
  refine anyP_take (i := 3) (v := ?v3_4) (a' := ?a3_4) rfl (by kernel_rfl) (by kernel_rfl) (by kernel_rfl) (fun _ _ _ h => h) (by first | exact .inl hC | exact .inr (by kernel_rfl)) (by kernel_rfl) ?w3_4 ?y3_4 ?f3_4 ?r3_4
  case w3_4 => kernel_rfl
  case y3_4 => (intro w hC; go_simp; try with_reducible rfl)
  case f3_4 => (go_simp; try with_reducible rfl)
  refine anyP_take (i := 5) (v := ?v5_5) (a' := ?a5_5) rfl (by kernel_rfl) (by kernel_rfl) (by kernel_rfl) (fun _ _ _ h => h) (by first | exact .inl hC | exact .inr (by kernel_rfl)) (by kernel_rfl) ?w5_5 ?y5_5 ?f5_5 ?r5_5
  case w5_5 => kernel_rfl
  case y5_5 => (intro w hC; go_simp; try with_reducible rfl)
  case f5_5 => (go_simp; try with_reducible rfl)
  refine anyP_take (i := 6) (v := ?v6_6) (a' := ?a6_6) rfl (by kernel_rfl) (by kernel_rfl) (by kernel_rfl) (fun _ _ _ h => h) (by first | exact .inl hC | exact .inr (by kernel_rfl)) (by kernel_rfl) ?w6_6 ?y6_6 ?f6_6 ?r6_6
  case w6_6 => kernel_rfl
  case y6_6 => (intro w hC; go_simp; try with_reducible rfl)
  case f6_6 => (go_simp; try with_reducible rfl)
  refine anyP_take (i := 7) (v := ?v7_7) (a' := ?a7_7) rfl (by kernel_rfl) (by kernel_rfl) (by kernel_rfl) (fun _ _ _ h => h) (by first | exact .inl hC | exact .inr (by kernel_rfl)) (by kernel_rfl) ?w7_7 ?y7_7 ?f7_7 ?r7_7
  case w7_7 => kernel_rfl
  case y7_7 => (intro w hC; go_simp; try with_reducible rfl)
  case f7_7 => (go_simp; try with_reducible rfl)
  refine anyP_take (i := 9) (v := ?v9_8) (a' := ?a9_8) rfl (by kernel_rfl) (by kernel_rfl) (by kernel_rfl) (fun _ _ _ h => h) (by first | exact .inl hC | exact .inr (by kernel_rfl)) (by kernel_rfl) ?w9_8 ?y9_8 ?f9_8 ?r9_8
  case w9_8 => kernel_rfl
  case y9_8 => (intro w hC; go_simp; try with_reducible rfl)
  case f9_8 => (go_simp; try with_reducible rfl)
  refine anyF_take (i := 4) (v := ?v4_9) (a' := ?a4_9) rfl (by kernel_rfl) (by kernel_rfl) (by kernel_rfl) (fun _ _ _ h => h) hC (by kernel_rfl) ?w4_9 ?y4_9 ?f4_9 ?r4_9
  case w4_9 => kernel_rfl
  case y4_9 => (intro w hC; have h4 := ((HJ.out w hC).at 0 rfl).1; go_simp; try with_reducible rfl)
  case f4_9 => (go_simp; try with_reducible rfl)
  refine anyF_take (i := 8) (v := ?v8_10) (a' := ?a8_10) rfl (by kernel_rfl) (by kernel_rfl) (by kernel_rfl) (fun _ _ _ h => h) hC (by kernel_rfl) ?w8_10 ?y8_10 ?f8_10 ?r8_10
  case w8_10 => kernel_rfl
  case y8_10 => (intro w hC; have h4 := ((HJ.out w hC).at 1 rfl).1; go_simp; try with_reducible rfl)
  case f8_10 => (go_simp; try with_reducible rfl)
  refine anyP_take (i := 10) (v := ?v10_11) (a' := ?a10_11) rfl (by kernel_rfl) (by kernel_rfl) (by kernel_rfl) (fun _ _ _ h => h) (by first | exact .inl hC | exact .inr (by kernel_rfl)) (by kernel_rfl) ?w10_11 ?y10_11 ?f10_11 ?r10_11
  case w10_11 => kernel_rfl
  case y10_11 => (intro w hC; go_simp; try with_reducible rfl)
  case f10_11 => (go_simp; try with_reducible rfl)
  refine anyF_one (i := 11) rfl (by kernel_rfl) (by kernel_rfl) (fun K hK => ?_)
  refine op_app2 (.tmp 8) (.tmp 14) 29 rfl 0 5 i0 (.int .u8 0) 1 Tryd.underlying29 hi hz0 hz1 hz2 rfl kv s.kept.length (u8s s.kept) rfl (HJ.out _ hC).kr w.heap.size Ac n cr (u8s (s.rest.take n)) rfl hln hrc (oneCell_ints _ _) (by unfold maxLen; omega) (by omega) (Nat.zero_le _) ?_
  intro v' w2 hown hgrow hblk
  obtain ⟨A3, c3, rfl, -, -, -⟩ := own_view hown
  have hown' : w2.ownsRow 0 5 1 (.slice A3 (s.kept.length + n) c3) (s.kept ++ s.rest.take n).length (u8s (s.kept ++ s.rest.take n)) := by
    have hl2 : (s.rest.take n).length = n := by rw [List.length_take]; omega
    rw [List.length_append, hl2, show u8s (s.kept ++ s.rest.take n) = u8s s.kept ++ u8s (s.rest.take n) from List.map_append]
    exact hown
  obtain ⟨⟨c0, f0⟩, ⟨c1, f1⟩, -, HD⟩ := (HJ.out _ hC).keeping hgrow (h.ok.r.take n) hown' hblk
  refine hK _ _ ⟨.inr (by kernel_rfl), ?_⟩
  clear hK K hown hown' hgrow hblk h hrd hrc hsl HJ
  refine anyP_take (i := 12) (v := ?v12_12) (a' := ?a12_12) rfl (by kernel_rfl) (by kernel_rfl) (by kernel_rfl) (fun _ _ _ h => h) (by first | exact .inl hC | exact .inr (by kernel_rfl)) (by kernel_rfl) ?w12_12 ?y12_12 ?f12_12 ?r12_12
  case w12_12 => kernel_rfl
  case y12_12 => (intro w hC; go_simp; try with_reducible rfl)
  case f12_12 => (go_simp; try with_reducible rfl)
  refine anyP_take (i := 13) (v := ?v13_13) (a' := ?a13_13) rfl (by kernel_rfl) (by kernel_rfl) (by kernel_rfl) (fun _ _ _ h => h) (by first | exact .inl hC | exact .inr (by kernel_rfl)) (by kernel_rfl) ?w13_13 ?y13_13 ?f13_13 ?r13_13
  case w13_13 => kernel_rfl
  case y13_13 => (intro w hC; go_simp; try with_reducible rfl)
  case f13_13 => (go_simp; try with_reducible rfl)
  refine anyF_one (i := 14) rfl (by kernel_rfl) (by kernel_rfl) (fun K hK => ?_)
  go_simp
  refine hK _ _ ⟨.inr (by kernel_rfl), ?_⟩
  clear hK K c0 f0
  refine anyF_done (by kernel_rfl) ?_
  go_wp2
  go_end0
  exact ⟨rfl, HD.out.drew⟩
end
end Go.Proofs.YtgpagddaopgdgaaDoor
