/- ProposerTells, walked. -/
import Derived.Test.YteebjplkkglfjaaOh
namespace Go.Proofs.Yteebjplkkglfjaa
open Go.RowKit Go.Shelf Km Kx Kc
set_option linter.unusedVariables false

set_option maxRecDepth 100000 in
set_option maxHeartbeats 4000000 in
theorem tells_walk (p : Pp) (y : Cf × List Int) (m : Mg) (a3 : Int) (w : World) (hp : p.At w w.heap.size) (hc : CfAt w y.1 y.2) (hm : m.At w w.heap.size) (w3 : (Lit.int .u64 a3).wf = true) :
    Calls Try.prog 3 #[.agg p.cells.toArray, .agg (cf y.1).toArray, .agg m.cells.toArray, .int .u64 a3] w fun e w' => e = .returned (.bool true) ∧ Below w.heap.size w w' := by
  obtain ⟨c, xs⟩ := y
  dsimp only at hc ⊢
  clear hc
  have HB := Lib.hid (Bxs.start w)
  obtain ⟨h3a, h3b⟩ := Ks.u64_of w3
  obtain ⟨g, rfl⟩ : ∃ g : Nat, a3 = (g : Int) := ⟨a3.toNat, by omega⟩
  have hg : g < 18446744073709551616 := by omega
  have low : ∀ {x : Pq} {W : World}, x.At w w.heap.size → Below w.heap.size w W → x.At W W.heap.size := fun h hb => (h.below hb (Nat.le_refl _)).more hb.size
  obtain ⟨q1, e1⟩ : ∃ q1, promise (Fc c) p m = q1 := ⟨_, rfl⟩
  obtain ⟨q2, e2⟩ : ∃ q2, accepted (Fc c) p m = q2 := ⟨_, rfl⟩
  obtain ⟨q3, e3⟩ : ∃ q3, start m.e m.b m.pl = q3 := ⟨_, rfl⟩
  have o1 : q1.own.At w w.heap.size ∧ q1.val.At w w.heap.size := by
    rw [← e1, promise_own]
    refine ⟨hp.own, ?_⟩
    rcases promise_val (Fc c) p m with h | h | h <;> rw [h]
    · exact hp.val
    · exact hm.pl
    · exact hp.own
  have o2 : q2.own.At w w.heap.size ∧ q2.val.At w w.heap.size := by
    rw [← e2, (accepted_own (Fc c) p m).1, (accepted_own (Fc c) p m).2]
    exact ⟨hp.own, hp.val⟩
  have o3 : q3.own.At w w.heap.size ∧ q3.val.At w w.heap.size := by
    rw [← e3]
    refine ⟨?_, Pq.zero_at _ _⟩
    have h := hm.pl
    exact ⟨hm.e, h.t, h.p, h.s, h.c, h.st, h.si, h.ra, h.up, h.su, h.pen, h.ch⟩
  have P1 : Hid (∀ W, Calls Try.prog 9 #[.agg p.cells.toArray, .agg (cf c).toArray, .agg m.cells.toArray] W fun e w' => e = .returned (.agg q1.cells.toArray) ∧ Below W.heap.size W w') := Lib.hid (fun W => by rw [← e1]; exact Promise_any p c m W hp.pr)
  have P2 : Hid (∀ W, Calls Try.prog 10 #[.agg p.cells.toArray, .agg (cf c).toArray, .agg m.cells.toArray] W fun e w' => e = .returned (.agg q1.cells.toArray) ∧ Below W.heap.size W w') := Lib.hid (fun W => by rw [← e1]; exact RPromise_any p c m W hp.pr)
  have P3 : Hid (∀ W, Calls Try.prog 11 #[.agg p.cells.toArray, .agg (cf c).toArray, .agg m.cells.toArray] W fun e w' => e = .returned (.agg q2.cells.toArray) ∧ Below W.heap.size W w') := Lib.hid (fun W => by rw [← e2]; exact Accepted_any p c m W hp.ac)
  have P4 : Hid (∀ W, Calls Try.prog 12 #[.agg p.cells.toArray, .agg (cf c).toArray, .agg m.cells.toArray] W fun e w' => e = .returned (.agg q2.cells.toArray) ∧ Below W.heap.size W w') := Lib.hid (fun W => by rw [← e2]; exact RAccepted_any p c m W hp.ac)
  have P5 : Hid (∀ W, Calls Try.prog 13 #[.int .i64 m.e, .int .i64 m.b, .agg m.pl.cells.toArray] W fun e w' => e = .returned (.agg q3.cells.toArray) ∧ Below W.heap.size W w') := Lib.hid (fun W => by rw [← e3]; exact Start_any m.e m.b m.pl W)
  have P6 : Hid (∀ W, Calls Try.prog 14 #[.int .i64 m.e, .int .i64 m.b, .agg m.pl.cells.toArray] W fun e w' => e = .returned (.agg q3.cells.toArray) ∧ Below W.heap.size W w') := Lib.hid (fun W => by rw [← e3]; exact RStart_any m.e m.b m.pl W)
  have P7 : Hid (∀ W, Calls Try.prog 15 #[.agg (cf c).toArray, .int .u64 (g : Int)] W fun e w' => e = .returned (.bool (Om.most (Fc c) g)) ∧ Below W.heap.size W w') := Lib.hid (fun W => Most_any c g W hg)
  have P8 : Hid (∀ W, Calls Try.prog 16 #[.agg (cf c).toArray, .int .u64 (g : Int)] W fun e w' => e = .returned (.bool (Om.most (Fc c) g)) ∧ Below W.heap.size W w') := Lib.hid (fun W => RMost_any c g W hg)
  have S1 : Hid (∀ W, Below w.heap.size w W → Calls Try.prog 8 #[.agg q1.cells.toArray, .agg q1.cells.toArray] W fun e w' => e = .returned (.bool true) ∧ Below W.heap.size W w') := Lib.hid (fun W hb => PropSame_any q1 W (low o1.1 hb) (low o1.2 hb))
  have S2 : Hid (∀ W, Below w.heap.size w W → Calls Try.prog 8 #[.agg q2.cells.toArray, .agg q2.cells.toArray] W fun e w' => e = .returned (.bool true) ∧ Below W.heap.size W w') := Lib.hid (fun W hb => PropSame_any q2 W (low o2.1 hb) (low o2.2 hb))
  have S3 : Hid (∀ W, Below w.heap.size w W → Calls Try.prog 8 #[.agg q3.cells.toArray, .agg q3.cells.toArray] W fun e w' => e = .returned (.bool true) ∧ Below W.heap.size W w') := Lib.hid (fun W hb => PropSame_any q3 W (low o3.1 hb) (low o3.2 hb))
  clear o1 o2 o3 e1 e2 e3 hp hm low hg w3 h3a h3b
  generalize Om.most (Fc c) g = mb at *
  go_enter Try.func3, Try.ntmps3
  go_wp2_with (first | (go_at_call 7; refine Calls.mono (head_any _) ?_; rintro e w_ ⟨rfl, hb_⟩; replace HB := Lib.hid (HB.out.call hb_); clear hb_) | (first | ((with_reducible refine Kx.absorb HB ?_); clear HB; intro w_ HB) | ((with_reducible refine Kx.box_gate (d := some 4) ?_); first | (refine Kx.wpList_boxa_x HB rfl _ _ rfl _ rfl ?_; clear HB; intro b4 w_ HB; refine Kx.framed ?_ (by simp only [Act.put, List.setIfInBounds_toArray, List.set_cons_succ, List.set_cons_zero] <;> rfl)) | (refine Kx.wpList_boxt_x HB rfl _ _ rfl _ rfl rfl ?_; clear HB; intro b4 w_ HB; refine Kx.framed ?_ (by simp only [Act.put, List.setIfInBounds_toArray, List.set_cons_succ, List.set_cons_zero] <;> rfl)) | (refine Kx.wpList_box1_x HB rfl _ _ rfl _ rfl rfl ?_; clear HB; intro b4 w_ HB; refine Kx.framed ?_ (by simp only [Act.put, List.setIfInBounds_toArray, List.set_cons_succ, List.set_cons_zero] <;> rfl))) | ((with_reducible refine Kx.alloc_gate (d := some 4) ?_); first | (refine Kx.wpList_alloca_x HB rfl _ rfl _ (Try.zeroValue28 _) ?_; clear HB; intro b4 w_ HB; refine Kx.framed ?_ (by simp only [Act.put, List.setIfInBounds_toArray, List.set_cons_succ, List.set_cons_zero] <;> rfl)) | (refine Kx.wpList_alloca_x HB rfl _ rfl _ (Try.zeroValue30 _) ?_; clear HB; intro b4 w_ HB; refine Kx.framed ?_ (by simp only [Act.put, List.setIfInBounds_toArray, List.set_cons_succ, List.set_cons_zero] <;> rfl)) | (refine Kx.wpList_alloca_x HB rfl _ rfl _ (Try.zeroValue34 _) ?_; clear HB; intro b4 w_ HB; refine Kx.framed ?_ (by simp only [Act.put, List.setIfInBounds_toArray, List.set_cons_succ, List.set_cons_zero] <;> rfl)) | (refine Kx.wpList_alloc1_x HB rfl _ rfl _ (Try.zeroValue4 _) rfl ?_; clear HB; intro b4 w_ HB; refine Kx.framed ?_ (by simp only [Act.put, List.setIfInBounds_toArray, List.set_cons_succ, List.set_cons_zero] <;> rfl))) | ((with_reducible refine Kx.box_gate (d := some 5) ?_); first | (refine Kx.wpList_boxa_x HB rfl _ _ rfl _ rfl ?_; clear HB; intro b5 w_ HB; refine Kx.framed ?_ (by simp only [Act.put, List.setIfInBounds_toArray, List.set_cons_succ, List.set_cons_zero] <;> rfl)) | (refine Kx.wpList_boxt_x HB rfl _ _ rfl _ rfl rfl ?_; clear HB; intro b5 w_ HB; refine Kx.framed ?_ (by simp only [Act.put, List.setIfInBounds_toArray, List.set_cons_succ, List.set_cons_zero] <;> rfl)) | (refine Kx.wpList_box1_x HB rfl _ _ rfl _ rfl rfl ?_; clear HB; intro b5 w_ HB; refine Kx.framed ?_ (by simp only [Act.put, List.setIfInBounds_toArray, List.set_cons_succ, List.set_cons_zero] <;> rfl))) | ((with_reducible refine Kx.alloc_gate (d := some 5) ?_); first | (refine Kx.wpList_alloca_x HB rfl _ rfl _ (Try.zeroValue28 _) ?_; clear HB; intro b5 w_ HB; refine Kx.framed ?_ (by simp only [Act.put, List.setIfInBounds_toArray, List.set_cons_succ, List.set_cons_zero] <;> rfl)) | (refine Kx.wpList_alloca_x HB rfl _ rfl _ (Try.zeroValue30 _) ?_; clear HB; intro b5 w_ HB; refine Kx.framed ?_ (by simp only [Act.put, List.setIfInBounds_toArray, List.set_cons_succ, List.set_cons_zero] <;> rfl)) | (refine Kx.wpList_alloca_x HB rfl _ rfl _ (Try.zeroValue34 _) ?_; clear HB; intro b5 w_ HB; refine Kx.framed ?_ (by simp only [Act.put, List.setIfInBounds_toArray, List.set_cons_succ, List.set_cons_zero] <;> rfl)) | (refine Kx.wpList_alloc1_x HB rfl _ rfl _ (Try.zeroValue4 _) rfl ?_; clear HB; intro b5 w_ HB; refine Kx.framed ?_ (by simp only [Act.put, List.setIfInBounds_toArray, List.set_cons_succ, List.set_cons_zero] <;> rfl))) | ((with_reducible refine Kx.box_gate (d := some 6) ?_); first | (refine Kx.wpList_boxa_x HB rfl _ _ rfl _ rfl ?_; clear HB; intro b6 w_ HB; refine Kx.framed ?_ (by simp only [Act.put, List.setIfInBounds_toArray, List.set_cons_succ, List.set_cons_zero] <;> rfl)) | (refine Kx.wpList_boxt_x HB rfl _ _ rfl _ rfl rfl ?_; clear HB; intro b6 w_ HB; refine Kx.framed ?_ (by simp only [Act.put, List.setIfInBounds_toArray, List.set_cons_succ, List.set_cons_zero] <;> rfl)) | (refine Kx.wpList_box1_x HB rfl _ _ rfl _ rfl rfl ?_; clear HB; intro b6 w_ HB; refine Kx.framed ?_ (by simp only [Act.put, List.setIfInBounds_toArray, List.set_cons_succ, List.set_cons_zero] <;> rfl))) | ((with_reducible refine Kx.alloc_gate (d := some 6) ?_); first | (refine Kx.wpList_alloca_x HB rfl _ rfl _ (Try.zeroValue28 _) ?_; clear HB; intro b6 w_ HB; refine Kx.framed ?_ (by simp only [Act.put, List.setIfInBounds_toArray, List.set_cons_succ, List.set_cons_zero] <;> rfl)) | (refine Kx.wpList_alloca_x HB rfl _ rfl _ (Try.zeroValue30 _) ?_; clear HB; intro b6 w_ HB; refine Kx.framed ?_ (by simp only [Act.put, List.setIfInBounds_toArray, List.set_cons_succ, List.set_cons_zero] <;> rfl)) | (refine Kx.wpList_alloca_x HB rfl _ rfl _ (Try.zeroValue34 _) ?_; clear HB; intro b6 w_ HB; refine Kx.framed ?_ (by simp only [Act.put, List.setIfInBounds_toArray, List.set_cons_succ, List.set_cons_zero] <;> rfl)) | (refine Kx.wpList_alloc1_x HB rfl _ rfl _ (Try.zeroValue4 _) rfl ?_; clear HB; intro b6 w_ HB; refine Kx.framed ?_ (by simp only [Act.put, List.setIfInBounds_toArray, List.set_cons_succ, List.set_cons_zero] <;> rfl))) | ((with_reducible refine Kx.box_gate ?_); first | (refine Kx.wpList_boxa_x HB rfl _ _ rfl _ rfl ?_; clear HB; intro b_ w_ HB; refine Kx.framed ?_ (by simp only [Act.put, List.setIfInBounds_toArray, List.set_cons_succ, List.set_cons_zero] <;> rfl)) | (refine Kx.wpList_boxt_x HB rfl _ _ rfl _ rfl rfl ?_; clear HB; intro b_ w_ HB; refine Kx.framed ?_ (by simp only [Act.put, List.setIfInBounds_toArray, List.set_cons_succ, List.set_cons_zero] <;> rfl)) | (refine Kx.wpList_box1_x HB rfl _ _ rfl _ rfl rfl ?_; clear HB; intro b_ w_ HB; refine Kx.framed ?_ (by simp only [Act.put, List.setIfInBounds_toArray, List.set_cons_succ, List.set_cons_zero] <;> rfl))) | ((with_reducible refine Kx.alloc_gate ?_); first | (refine Kx.wpList_alloca_x HB rfl _ rfl _ (Try.zeroValue28 _) ?_; clear HB; intro b_ w_ HB; refine Kx.framed ?_ (by simp only [Act.put, List.setIfInBounds_toArray, List.set_cons_succ, List.set_cons_zero] <;> rfl)) | (refine Kx.wpList_alloca_x HB rfl _ rfl _ (Try.zeroValue30 _) ?_; clear HB; intro b_ w_ HB; refine Kx.framed ?_ (by simp only [Act.put, List.setIfInBounds_toArray, List.set_cons_succ, List.set_cons_zero] <;> rfl)) | (refine Kx.wpList_alloca_x HB rfl _ rfl _ (Try.zeroValue34 _) ?_; clear HB; intro b_ w_ HB; refine Kx.framed ?_ (by simp only [Act.put, List.setIfInBounds_toArray, List.set_cons_succ, List.set_cons_zero] <;> rfl)) | (refine Kx.wpList_alloc1_x HB rfl _ rfl _ (Try.zeroValue4 _) rfl ?_; clear HB; intro b_ w_ HB; refine Kx.framed ?_ (by simp only [Act.put, List.setIfInBounds_toArray, List.set_cons_succ, List.set_cons_zero] <;> rfl))) | ((with_reducible refine Kx.loads_gate ?_); first | (refine Kx.wpList_load1_x HB rfl _ _ rfl _ rfl _ (Try.isAgg4 _) _ rfl (Kx.framed ?_ (by simp only [Act.put, List.setIfInBounds_toArray, List.set_cons_succ, List.set_cons_zero] <;> rfl))) | (refine Kx.wpList_load_x HB rfl _ _ rfl _ rfl _ _ (Try.isAgg28 _) (Try.sizeOf28 _) _ (by first | exact Kx.whole (by rfl) | (simp <;> rfl)) (by rfl) (Kx.framed ?_ (by simp only [Act.put, List.setIfInBounds_toArray, List.set_cons_succ, List.set_cons_zero] <;> rfl))) | (refine Kx.wpList_load_x HB rfl _ _ rfl _ rfl _ _ (Try.isAgg30 _) (Try.sizeOf30 _) _ (by first | exact Kx.whole (by rfl) | (simp <;> rfl)) (by rfl) (Kx.framed ?_ (by simp only [Act.put, List.setIfInBounds_toArray, List.set_cons_succ, List.set_cons_zero] <;> rfl))) | (refine Kx.wpList_load_x HB rfl _ _ rfl _ rfl _ _ (Try.isAgg34 _) (Try.sizeOf34 _) _ (by first | exact Kx.whole (by rfl) | (simp <;> rfl)) (by rfl) (Kx.framed ?_ (by simp only [Act.put, List.setIfInBounds_toArray, List.set_cons_succ, List.set_cons_zero] <;> rfl))) | (refine Kx.wpList_old_x HB rfl _ _ rfl _ rfl (Try.isAgg4 _) _ HC.out (Kx.framed ?_ (by simp only [Act.put, List.setIfInBounds_toArray, List.set_cons_succ, List.set_cons_zero] <;> rfl)))) | ((with_reducible refine Kx.loadg_gate ?_); first | (refine Kx.wpList_loadg_x HB _ _ rfl _ rfl _ (Try.isAgg4 _) _ rfl rfl (Kx.framed ?_ (by simp only [Act.put, List.setIfInBounds_toArray, List.set_cons_succ, List.set_cons_zero] <;> rfl))) | (refine Kx.wpList_loadga_x HB _ _ rfl _ rfl _ _ (Try.isAgg28 _) (Try.sizeOf28 _) _ (by first | exact Kx.whole (by rfl) | (simp <;> rfl)) (by rfl) rfl (Kx.framed ?_ (by simp only [Act.put, List.setIfInBounds_toArray, List.set_cons_succ, List.set_cons_zero] <;> rfl))) | (refine Kx.wpList_loadga_x HB _ _ rfl _ rfl _ _ (Try.isAgg30 _) (Try.sizeOf30 _) _ (by first | exact Kx.whole (by rfl) | (simp <;> rfl)) (by rfl) rfl (Kx.framed ?_ (by simp only [Act.put, List.setIfInBounds_toArray, List.set_cons_succ, List.set_cons_zero] <;> rfl))) | (refine Kx.wpList_loadga_x HB _ _ rfl _ rfl _ _ (Try.isAgg34 _) (Try.sizeOf34 _) _ (by first | exact Kx.whole (by rfl) | (simp <;> rfl)) (by rfl) rfl (Kx.framed ?_ (by simp only [Act.put, List.setIfInBounds_toArray, List.set_cons_succ, List.set_cons_zero] <;> rfl))) | (refine Kx.wpList_oldg_x HB _ _ rfl _ rfl (Try.isAgg4 _) _ HC.out rfl (Kx.framed ?_ (by simp only [Act.put, List.setIfInBounds_toArray, List.set_cons_succ, List.set_cons_zero] <;> rfl)))) | ((with_reducible refine Kx.store_gate ?_); first | (refine Kx.wpList_storewa_x HB rfl rfl _ _ _ rfl _ rfl _ rfl _ (by rfl) (by simp <;> rfl) (by rfl) ?_; clear HB; intro w_ HB) | (refine Kx.wpList_storea_x HB rfl rfl _ _ _ rfl _ rfl _ rfl _ _ (by simp [Kx.splice] <;> rfl) (by simp) (by simp <;> rfl) (by rfl) ?_; clear HB; intro w_ HB) | (refine Kx.wpList_storec_x HB rfl rfl _ _ _ rfl _ rfl rfl _ _ (by simp <;> rfl) (by simp) (by simp <;> rfl) ?_; clear HB; intro w_ HB) | (refine Kx.wpList_storet_x HB rfl rfl _ _ _ rfl _ rfl _ rfl rfl _ _ (by simp <;> rfl) (by simp) (by simp <;> rfl) ?_; clear HB; intro w_ HB) | (refine Kx.wpList_store1_x HB rfl rfl _ _ _ rfl _ rfl _ rfl rfl _ _ (by simp <;> rfl) (by simp) (by simp <;> rfl) ?_; clear HB; intro w_ HB))))
  refine Kx.region_x HB (fun i => false) (by kernel_rfl) ?_
  refine anyW_take (i := 0) (v := ?v0_36) (a' := ?a0_36) (by first | exact Kx.bears_x | exact bears_u | assumption) rfl (by kernel_rfl) (by kernel_rfl) (by kernel_rfl) (fun _ _ _ h => h) (by kernel_rfl) ?w0_36 ?y0_36 ?f0_36 ?r0_36
  case w0_36 => kernel_rfl
  case y0_36 => (intro w hC; go_simp; try with_reducible rfl)
  case f0_36 => (go_simp; try with_reducible rfl)
  refine anyW_take (i := 1) (v := ?v1_37) (a' := ?a1_37) (by first | exact Kx.bears_x | exact bears_u | assumption) rfl (by kernel_rfl) (by kernel_rfl) (by kernel_rfl) (fun _ _ _ h => h) (by kernel_rfl) ?w1_37 ?y1_37 ?f1_37 ?r1_37
  case w1_37 => kernel_rfl
  case y1_37 => (intro w hC; go_simp; try with_reducible rfl)
  case f1_37 => (go_simp; try with_reducible rfl)
  refine anyW_take (i := 2) (v := ?v2_38) (a' := ?a2_38) (by first | exact Kx.bears_x | exact bears_u | assumption) rfl (by kernel_rfl) (by kernel_rfl) (by kernel_rfl) (fun _ _ _ h => h) (by kernel_rfl) ?w2_38 ?y2_38 ?f2_38 ?r2_38
  case w2_38 => kernel_rfl
  case y2_38 => (intro W hW; first | (refine Eq.trans (Kx.tells_load1_x hW _ _ rfl _ inferInstance (Try.isAgg2 _) rfl) ?_; with_reducible rfl) | (refine Eq.trans (Kx.tells_old_x hW _ rfl (Try.isAgg2 _) HC.out) ?_; with_reducible rfl) | (refine Eq.trans (Kx.tells_load_x hW _ _ rfl _ inferInstance _ (Try.isAgg28 _) (Try.sizeOf28 _) _ (by first | exact Kx.whole (by rfl) | (simp <;> rfl)) (by rfl) rfl) ?_; with_reducible rfl) | (refine Eq.trans (Kx.tells_load_x hW _ _ rfl _ inferInstance _ (Try.isAgg30 _) (Try.sizeOf30 _) _ (by first | exact Kx.whole (by rfl) | (simp <;> rfl)) (by rfl) rfl) ?_; with_reducible rfl) | (refine Eq.trans (Kx.tells_load_x hW _ _ rfl _ inferInstance _ (Try.isAgg34 _) (Try.sizeOf34 _) _ (by first | exact Kx.whole (by rfl) | (simp <;> rfl)) (by rfl) rfl) ?_; with_reducible rfl) | (refine Eq.trans (Kx.tells_load_x hW _ _ rfl _ inferInstance _ (Try.isAgg26 _) (Try.sizeOf26 _) _ (by first | exact Kx.whole (by rfl) | (simp <;> rfl)) (by rfl) rfl) ?_; with_reducible rfl))
  case f2_38 => (go_simp; try with_reducible rfl)
  refine anyW_take (i := 3) (v := ?v3_39) (a' := ?a3_39) (by first | exact Kx.bears_x | exact bears_u | assumption) rfl (by kernel_rfl) (by kernel_rfl) (by kernel_rfl) (fun _ _ _ h => h) (by kernel_rfl) ?w3_39 ?y3_39 ?f3_39 ?r3_39
  case w3_39 => kernel_rfl
  case y3_39 => (intro W hW; first | (refine Eq.trans (Kx.tells_load1_x hW _ _ rfl _ inferInstance (Try.isAgg2 _) rfl) ?_; with_reducible rfl) | (refine Eq.trans (Kx.tells_old_x hW _ rfl (Try.isAgg2 _) HC.out) ?_; with_reducible rfl) | (refine Eq.trans (Kx.tells_load_x hW _ _ rfl _ inferInstance _ (Try.isAgg28 _) (Try.sizeOf28 _) _ (by first | exact Kx.whole (by rfl) | (simp <;> rfl)) (by rfl) rfl) ?_; with_reducible rfl) | (refine Eq.trans (Kx.tells_load_x hW _ _ rfl _ inferInstance _ (Try.isAgg30 _) (Try.sizeOf30 _) _ (by first | exact Kx.whole (by rfl) | (simp <;> rfl)) (by rfl) rfl) ?_; with_reducible rfl) | (refine Eq.trans (Kx.tells_load_x hW _ _ rfl _ inferInstance _ (Try.isAgg34 _) (Try.sizeOf34 _) _ (by first | exact Kx.whole (by rfl) | (simp <;> rfl)) (by rfl) rfl) ?_; with_reducible rfl) | (refine Eq.trans (Kx.tells_load_x hW _ _ rfl _ inferInstance _ (Try.isAgg26 _) (Try.sizeOf26 _) _ (by first | exact Kx.whole (by rfl) | (simp <;> rfl)) (by rfl) rfl) ?_; with_reducible rfl))
  case f3_39 => (go_simp; try with_reducible rfl)
  refine anyW_take (i := 4) (v := ?v4_40) (a' := ?a4_40) (by first | exact Kx.bears_x | exact bears_u | assumption) rfl (by kernel_rfl) (by kernel_rfl) (by kernel_rfl) (fun _ _ _ h => h) (by kernel_rfl) ?w4_40 ?y4_40 ?f4_40 ?r4_40
  case w4_40 => kernel_rfl
  case y4_40 => (intro W hW; first | (refine Eq.trans (Kx.tells_load1_x hW _ _ rfl _ inferInstance (Try.isAgg2 _) rfl) ?_; with_reducible rfl) | (refine Eq.trans (Kx.tells_old_x hW _ rfl (Try.isAgg2 _) HC.out) ?_; with_reducible rfl) | (refine Eq.trans (Kx.tells_load_x hW _ _ rfl _ inferInstance _ (Try.isAgg28 _) (Try.sizeOf28 _) _ (by first | exact Kx.whole (by rfl) | (simp <;> rfl)) (by rfl) rfl) ?_; with_reducible rfl) | (refine Eq.trans (Kx.tells_load_x hW _ _ rfl _ inferInstance _ (Try.isAgg30 _) (Try.sizeOf30 _) _ (by first | exact Kx.whole (by rfl) | (simp <;> rfl)) (by rfl) rfl) ?_; with_reducible rfl) | (refine Eq.trans (Kx.tells_load_x hW _ _ rfl _ inferInstance _ (Try.isAgg34 _) (Try.sizeOf34 _) _ (by first | exact Kx.whole (by rfl) | (simp <;> rfl)) (by rfl) rfl) ?_; with_reducible rfl) | (refine Eq.trans (Kx.tells_load_x hW _ _ rfl _ inferInstance _ (Try.isAgg26 _) (Try.sizeOf26 _) _ (by first | exact Kx.whole (by rfl) | (simp <;> rfl)) (by rfl) rfl) ?_; with_reducible rfl))
  case f4_40 => (go_simp; try with_reducible rfl)
  refine anyW_call (i := 5) (v := ?v5_41) (f := ?g5_41) (args := ?s5_41) (a' := ?a5_41) (by first | exact Kx.bears_x | exact bears_u | assumption) rfl (by kernel_rfl) (by kernel_rfl) (by kernel_rfl) (fun _ _ _ h => h) (by kernel_rfl) ?c5_41 ?w5_41 ?y5_41 ?f5_41 ?r5_41
  case w5_41 => kernel_rfl
  case y5_41 => (intro W hW; go_simp; first | (refine ⟨?_, ?_⟩ <;> with_reducible rfl) | with_reducible rfl)
  case c5_41 => (intro W hW; refine Calls.mono (P1.out W) ?_; rintro e w_ ⟨rfl, hb_⟩; refine ⟨?_, by first | exact hb_ | exact hb_ ▸ Below.refl _ _⟩; with_reducible rfl)
  case f5_41 => (go_simp; try with_reducible rfl)
  refine anyW_take (i := 6) (v := ?v6_42) (a' := ?a6_42) (by first | exact Kx.bears_x | exact bears_u | assumption) rfl (by kernel_rfl) (by kernel_rfl) (by kernel_rfl) (fun _ _ _ h => h) (by kernel_rfl) ?w6_42 ?y6_42 ?f6_42 ?r6_42
  case w6_42 => kernel_rfl
  case y6_42 => (intro W hW; first | (refine Eq.trans (Kx.tells_load1_x hW _ _ rfl _ inferInstance (Try.isAgg2 _) rfl) ?_; with_reducible rfl) | (refine Eq.trans (Kx.tells_old_x hW _ rfl (Try.isAgg2 _) HC.out) ?_; with_reducible rfl) | (refine Eq.trans (Kx.tells_load_x hW _ _ rfl _ inferInstance _ (Try.isAgg28 _) (Try.sizeOf28 _) _ (by first | exact Kx.whole (by rfl) | (simp <;> rfl)) (by rfl) rfl) ?_; with_reducible rfl) | (refine Eq.trans (Kx.tells_load_x hW _ _ rfl _ inferInstance _ (Try.isAgg30 _) (Try.sizeOf30 _) _ (by first | exact Kx.whole (by rfl) | (simp <;> rfl)) (by rfl) rfl) ?_; with_reducible rfl) | (refine Eq.trans (Kx.tells_load_x hW _ _ rfl _ inferInstance _ (Try.isAgg34 _) (Try.sizeOf34 _) _ (by first | exact Kx.whole (by rfl) | (simp <;> rfl)) (by rfl) rfl) ?_; with_reducible rfl) | (refine Eq.trans (Kx.tells_load_x hW _ _ rfl _ inferInstance _ (Try.isAgg26 _) (Try.sizeOf26 _) _ (by first | exact Kx.whole (by rfl) | (simp <;> rfl)) (by rfl) rfl) ?_; with_reducible rfl))
  case f6_42 => (go_simp; try with_reducible rfl)
  refine anyW_take (i := 7) (v := ?v7_43) (a' := ?a7_43) (by first | exact Kx.bears_x | exact bears_u | assumption) rfl (by kernel_rfl) (by kernel_rfl) (by kernel_rfl) (fun _ _ _ h => h) (by kernel_rfl) ?w7_43 ?y7_43 ?f7_43 ?r7_43
  case w7_43 => kernel_rfl
  case y7_43 => (intro W hW; first | (refine Eq.trans (Kx.tells_load1_x hW _ _ rfl _ inferInstance (Try.isAgg2 _) rfl) ?_; with_reducible rfl) | (refine Eq.trans (Kx.tells_old_x hW _ rfl (Try.isAgg2 _) HC.out) ?_; with_reducible rfl) | (refine Eq.trans (Kx.tells_load_x hW _ _ rfl _ inferInstance _ (Try.isAgg28 _) (Try.sizeOf28 _) _ (by first | exact Kx.whole (by rfl) | (simp <;> rfl)) (by rfl) rfl) ?_; with_reducible rfl) | (refine Eq.trans (Kx.tells_load_x hW _ _ rfl _ inferInstance _ (Try.isAgg30 _) (Try.sizeOf30 _) _ (by first | exact Kx.whole (by rfl) | (simp <;> rfl)) (by rfl) rfl) ?_; with_reducible rfl) | (refine Eq.trans (Kx.tells_load_x hW _ _ rfl _ inferInstance _ (Try.isAgg34 _) (Try.sizeOf34 _) _ (by first | exact Kx.whole (by rfl) | (simp <;> rfl)) (by rfl) rfl) ?_; with_reducible rfl) | (refine Eq.trans (Kx.tells_load_x hW _ _ rfl _ inferInstance _ (Try.isAgg26 _) (Try.sizeOf26 _) _ (by first | exact Kx.whole (by rfl) | (simp <;> rfl)) (by rfl) rfl) ?_; with_reducible rfl))
  case f7_43 => (go_simp; try with_reducible rfl)
  refine anyW_take (i := 8) (v := ?v8_44) (a' := ?a8_44) (by first | exact Kx.bears_x | exact bears_u | assumption) rfl (by kernel_rfl) (by kernel_rfl) (by kernel_rfl) (fun _ _ _ h => h) (by kernel_rfl) ?w8_44 ?y8_44 ?f8_44 ?r8_44
  case w8_44 => kernel_rfl
  case y8_44 => (intro W hW; first | (refine Eq.trans (Kx.tells_load1_x hW _ _ rfl _ inferInstance (Try.isAgg2 _) rfl) ?_; with_reducible rfl) | (refine Eq.trans (Kx.tells_old_x hW _ rfl (Try.isAgg2 _) HC.out) ?_; with_reducible rfl) | (refine Eq.trans (Kx.tells_load_x hW _ _ rfl _ inferInstance _ (Try.isAgg28 _) (Try.sizeOf28 _) _ (by first | exact Kx.whole (by rfl) | (simp <;> rfl)) (by rfl) rfl) ?_; with_reducible rfl) | (refine Eq.trans (Kx.tells_load_x hW _ _ rfl _ inferInstance _ (Try.isAgg30 _) (Try.sizeOf30 _) _ (by first | exact Kx.whole (by rfl) | (simp <;> rfl)) (by rfl) rfl) ?_; with_reducible rfl) | (refine Eq.trans (Kx.tells_load_x hW _ _ rfl _ inferInstance _ (Try.isAgg34 _) (Try.sizeOf34 _) _ (by first | exact Kx.whole (by rfl) | (simp <;> rfl)) (by rfl) rfl) ?_; with_reducible rfl) | (refine Eq.trans (Kx.tells_load_x hW _ _ rfl _ inferInstance _ (Try.isAgg26 _) (Try.sizeOf26 _) _ (by first | exact Kx.whole (by rfl) | (simp <;> rfl)) (by rfl) rfl) ?_; with_reducible rfl))
  case f8_44 => (go_simp; try with_reducible rfl)
  refine anyW_call (i := 9) (v := ?v9_45) (f := ?g9_45) (args := ?s9_45) (a' := ?a9_45) (by first | exact Kx.bears_x | exact bears_u | assumption) rfl (by kernel_rfl) (by kernel_rfl) (by kernel_rfl) (fun _ _ _ h => h) (by kernel_rfl) ?c9_45 ?w9_45 ?y9_45 ?f9_45 ?r9_45
  case w9_45 => kernel_rfl
  case y9_45 => (intro W hW; go_simp; first | (refine ⟨?_, ?_⟩ <;> with_reducible rfl) | with_reducible rfl)
  case c9_45 => (intro W hW; refine Calls.mono (P2.out W) ?_; rintro e w_ ⟨rfl, hb_⟩; refine ⟨?_, by first | exact hb_ | exact hb_ ▸ Below.refl _ _⟩; with_reducible rfl)
  case f9_45 => (go_simp; try with_reducible rfl)
  refine anyW_call (i := 10) (v := ?v10_46) (f := ?g10_46) (args := ?s10_46) (a' := ?a10_46) (by first | exact Kx.bears_x | exact bears_u | assumption) rfl (by kernel_rfl) (by kernel_rfl) (by kernel_rfl) (fun _ _ _ h => h) (by kernel_rfl) ?c10_46 ?w10_46 ?y10_46 ?f10_46 ?r10_46
  case w10_46 => kernel_rfl
  case y10_46 => (intro W hW; go_simp; first | (refine ⟨?_, ?_⟩ <;> with_reducible rfl) | with_reducible rfl)
  case c10_46 => (intro W hW; refine Calls.mono (S1.out W hW.below) ?_; rintro e w_ ⟨rfl, hb_⟩; refine ⟨?_, by first | exact hb_ | exact hb_ ▸ Below.refl _ _⟩; with_reducible rfl)
  case f10_46 => (go_simp; try with_reducible rfl)
  refine anyW_take (i := 11) (v := ?v11_47) (a' := ?a11_47) (by first | exact Kx.bears_x | exact bears_u | assumption) rfl (by kernel_rfl) (by kernel_rfl) (by kernel_rfl) (fun _ _ _ h => h) (by kernel_rfl) ?w11_47 ?y11_47 ?f11_47 ?r11_47
  case w11_47 => kernel_rfl
  case y11_47 => (intro w hC; go_simp; try with_reducible rfl)
  case f11_47 => (go_simp; try with_reducible rfl)
  refine anyW_take (i := 12) (v := ?v12_48) (a' := ?a12_48) (by first | exact Kx.bears_x | exact bears_u | assumption) rfl (by kernel_rfl) (by kernel_rfl) (by kernel_rfl) (fun _ _ _ h => h) (by kernel_rfl) ?w12_48 ?y12_48 ?f12_48 ?r12_48
  case w12_48 => kernel_rfl
  case y12_48 => (intro w hC; go_simp; try with_reducible rfl)
  case f12_48 => (go_simp; try with_reducible rfl)
  refine anyW_take (i := 13) (v := ?v13_49) (a' := ?a13_49) (by first | exact Kx.bears_x | exact bears_u | assumption) rfl (by kernel_rfl) (by kernel_rfl) (by kernel_rfl) (fun _ _ _ h => h) (by kernel_rfl) ?w13_49 ?y13_49 ?f13_49 ?r13_49
  case w13_49 => kernel_rfl
  case y13_49 => (intro W hW; first | (refine Eq.trans (Kx.tells_load1_x hW _ _ rfl _ inferInstance (Try.isAgg2 _) rfl) ?_; with_reducible rfl) | (refine Eq.trans (Kx.tells_old_x hW _ rfl (Try.isAgg2 _) HC.out) ?_; with_reducible rfl) | (refine Eq.trans (Kx.tells_load_x hW _ _ rfl _ inferInstance _ (Try.isAgg28 _) (Try.sizeOf28 _) _ (by first | exact Kx.whole (by rfl) | (simp <;> rfl)) (by rfl) rfl) ?_; with_reducible rfl) | (refine Eq.trans (Kx.tells_load_x hW _ _ rfl _ inferInstance _ (Try.isAgg30 _) (Try.sizeOf30 _) _ (by first | exact Kx.whole (by rfl) | (simp <;> rfl)) (by rfl) rfl) ?_; with_reducible rfl) | (refine Eq.trans (Kx.tells_load_x hW _ _ rfl _ inferInstance _ (Try.isAgg34 _) (Try.sizeOf34 _) _ (by first | exact Kx.whole (by rfl) | (simp <;> rfl)) (by rfl) rfl) ?_; with_reducible rfl) | (refine Eq.trans (Kx.tells_load_x hW _ _ rfl _ inferInstance _ (Try.isAgg26 _) (Try.sizeOf26 _) _ (by first | exact Kx.whole (by rfl) | (simp <;> rfl)) (by rfl) rfl) ?_; with_reducible rfl))
  case f13_49 => (go_simp; try with_reducible rfl)
  refine anyW_take (i := 14) (v := ?v14_50) (a' := ?a14_50) (by first | exact Kx.bears_x | exact bears_u | assumption) rfl (by kernel_rfl) (by kernel_rfl) (by kernel_rfl) (fun _ _ _ h => h) (by kernel_rfl) ?w14_50 ?y14_50 ?f14_50 ?r14_50
  case w14_50 => kernel_rfl
  case y14_50 => (intro W hW; first | (refine Eq.trans (Kx.tells_load1_x hW _ _ rfl _ inferInstance (Try.isAgg2 _) rfl) ?_; with_reducible rfl) | (refine Eq.trans (Kx.tells_old_x hW _ rfl (Try.isAgg2 _) HC.out) ?_; with_reducible rfl) | (refine Eq.trans (Kx.tells_load_x hW _ _ rfl _ inferInstance _ (Try.isAgg28 _) (Try.sizeOf28 _) _ (by first | exact Kx.whole (by rfl) | (simp <;> rfl)) (by rfl) rfl) ?_; with_reducible rfl) | (refine Eq.trans (Kx.tells_load_x hW _ _ rfl _ inferInstance _ (Try.isAgg30 _) (Try.sizeOf30 _) _ (by first | exact Kx.whole (by rfl) | (simp <;> rfl)) (by rfl) rfl) ?_; with_reducible rfl) | (refine Eq.trans (Kx.tells_load_x hW _ _ rfl _ inferInstance _ (Try.isAgg34 _) (Try.sizeOf34 _) _ (by first | exact Kx.whole (by rfl) | (simp <;> rfl)) (by rfl) rfl) ?_; with_reducible rfl) | (refine Eq.trans (Kx.tells_load_x hW _ _ rfl _ inferInstance _ (Try.isAgg26 _) (Try.sizeOf26 _) _ (by first | exact Kx.whole (by rfl) | (simp <;> rfl)) (by rfl) rfl) ?_; with_reducible rfl))
  case f14_50 => (go_simp; try with_reducible rfl)
  refine anyW_take (i := 15) (v := ?v15_51) (a' := ?a15_51) (by first | exact Kx.bears_x | exact bears_u | assumption) rfl (by kernel_rfl) (by kernel_rfl) (by kernel_rfl) (fun _ _ _ h => h) (by kernel_rfl) ?w15_51 ?y15_51 ?f15_51 ?r15_51
  case w15_51 => kernel_rfl
  case y15_51 => (intro W hW; first | (refine Eq.trans (Kx.tells_load1_x hW _ _ rfl _ inferInstance (Try.isAgg2 _) rfl) ?_; with_reducible rfl) | (refine Eq.trans (Kx.tells_old_x hW _ rfl (Try.isAgg2 _) HC.out) ?_; with_reducible rfl) | (refine Eq.trans (Kx.tells_load_x hW _ _ rfl _ inferInstance _ (Try.isAgg28 _) (Try.sizeOf28 _) _ (by first | exact Kx.whole (by rfl) | (simp <;> rfl)) (by rfl) rfl) ?_; with_reducible rfl) | (refine Eq.trans (Kx.tells_load_x hW _ _ rfl _ inferInstance _ (Try.isAgg30 _) (Try.sizeOf30 _) _ (by first | exact Kx.whole (by rfl) | (simp <;> rfl)) (by rfl) rfl) ?_; with_reducible rfl) | (refine Eq.trans (Kx.tells_load_x hW _ _ rfl _ inferInstance _ (Try.isAgg34 _) (Try.sizeOf34 _) _ (by first | exact Kx.whole (by rfl) | (simp <;> rfl)) (by rfl) rfl) ?_; with_reducible rfl) | (refine Eq.trans (Kx.tells_load_x hW _ _ rfl _ inferInstance _ (Try.isAgg26 _) (Try.sizeOf26 _) _ (by first | exact Kx.whole (by rfl) | (simp <;> rfl)) (by rfl) rfl) ?_; with_reducible rfl))
  case f15_51 => (go_simp; try with_reducible rfl)
  refine anyW_call (i := 16) (v := ?v16_52) (f := ?g16_52) (args := ?s16_52) (a' := ?a16_52) (by first | exact Kx.bears_x | exact bears_u | assumption) rfl (by kernel_rfl) (by kernel_rfl) (by kernel_rfl) (fun _ _ _ h => h) (by kernel_rfl) ?c16_52 ?w16_52 ?y16_52 ?f16_52 ?r16_52
  case w16_52 => kernel_rfl
  case y16_52 => (intro W hW; go_simp; first | (refine ⟨?_, ?_⟩ <;> with_reducible rfl) | with_reducible rfl)
  case c16_52 => (intro W hW; refine Calls.mono (P3.out W) ?_; rintro e w_ ⟨rfl, hb_⟩; refine ⟨?_, by first | exact hb_ | exact hb_ ▸ Below.refl _ _⟩; with_reducible rfl)
  case f16_52 => (go_simp; try with_reducible rfl)
  refine anyW_take (i := 17) (v := ?v17_53) (a' := ?a17_53) (by first | exact Kx.bears_x | exact bears_u | assumption) rfl (by kernel_rfl) (by kernel_rfl) (by kernel_rfl) (fun _ _ _ h => h) (by kernel_rfl) ?w17_53 ?y17_53 ?f17_53 ?r17_53
  case w17_53 => kernel_rfl
  case y17_53 => (intro W hW; first | (refine Eq.trans (Kx.tells_load1_x hW _ _ rfl _ inferInstance (Try.isAgg2 _) rfl) ?_; with_reducible rfl) | (refine Eq.trans (Kx.tells_old_x hW _ rfl (Try.isAgg2 _) HC.out) ?_; with_reducible rfl) | (refine Eq.trans (Kx.tells_load_x hW _ _ rfl _ inferInstance _ (Try.isAgg28 _) (Try.sizeOf28 _) _ (by first | exact Kx.whole (by rfl) | (simp <;> rfl)) (by rfl) rfl) ?_; with_reducible rfl) | (refine Eq.trans (Kx.tells_load_x hW _ _ rfl _ inferInstance _ (Try.isAgg30 _) (Try.sizeOf30 _) _ (by first | exact Kx.whole (by rfl) | (simp <;> rfl)) (by rfl) rfl) ?_; with_reducible rfl) | (refine Eq.trans (Kx.tells_load_x hW _ _ rfl _ inferInstance _ (Try.isAgg34 _) (Try.sizeOf34 _) _ (by first | exact Kx.whole (by rfl) | (simp <;> rfl)) (by rfl) rfl) ?_; with_reducible rfl) | (refine Eq.trans (Kx.tells_load_x hW _ _ rfl _ inferInstance _ (Try.isAgg26 _) (Try.sizeOf26 _) _ (by first | exact Kx.whole (by rfl) | (simp <;> rfl)) (by rfl) rfl) ?_; with_reducible rfl))
  case f17_53 => (go_simp; try with_reducible rfl)
  refine anyW_take (i := 18) (v := ?v18_54) (a' := ?a18_54) (by first | exact Kx.bears_x | exact bears_u | assumption) rfl (by kernel_rfl) (by kernel_rfl) (by kernel_rfl) (fun _ _ _ h => h) (by kernel_rfl) ?w18_54 ?y18_54 ?f18_54 ?r18_54
  case w18_54 => kernel_rfl
  case y18_54 => (intro W hW; first | (refine Eq.trans (Kx.tells_load1_x hW _ _ rfl _ inferInstance (Try.isAgg2 _) rfl) ?_; with_reducible rfl) | (refine Eq.trans (Kx.tells_old_x hW _ rfl (Try.isAgg2 _) HC.out) ?_; with_reducible rfl) | (refine Eq.trans (Kx.tells_load_x hW _ _ rfl _ inferInstance _ (Try.isAgg28 _) (Try.sizeOf28 _) _ (by first | exact Kx.whole (by rfl) | (simp <;> rfl)) (by rfl) rfl) ?_; with_reducible rfl) | (refine Eq.trans (Kx.tells_load_x hW _ _ rfl _ inferInstance _ (Try.isAgg30 _) (Try.sizeOf30 _) _ (by first | exact Kx.whole (by rfl) | (simp <;> rfl)) (by rfl) rfl) ?_; with_reducible rfl) | (refine Eq.trans (Kx.tells_load_x hW _ _ rfl _ inferInstance _ (Try.isAgg34 _) (Try.sizeOf34 _) _ (by first | exact Kx.whole (by rfl) | (simp <;> rfl)) (by rfl) rfl) ?_; with_reducible rfl) | (refine Eq.trans (Kx.tells_load_x hW _ _ rfl _ inferInstance _ (Try.isAgg26 _) (Try.sizeOf26 _) _ (by first | exact Kx.whole (by rfl) | (simp <;> rfl)) (by rfl) rfl) ?_; with_reducible rfl))
  case f18_54 => (go_simp; try with_reducible rfl)
  refine anyW_take (i := 19) (v := ?v19_55) (a' := ?a19_55) (by first | exact Kx.bears_x | exact bears_u | assumption) rfl (by kernel_rfl) (by kernel_rfl) (by kernel_rfl) (fun _ _ _ h => h) (by kernel_rfl) ?w19_55 ?y19_55 ?f19_55 ?r19_55
  case w19_55 => kernel_rfl
  case y19_55 => (intro W hW; first | (refine Eq.trans (Kx.tells_load1_x hW _ _ rfl _ inferInstance (Try.isAgg2 _) rfl) ?_; with_reducible rfl) | (refine Eq.trans (Kx.tells_old_x hW _ rfl (Try.isAgg2 _) HC.out) ?_; with_reducible rfl) | (refine Eq.trans (Kx.tells_load_x hW _ _ rfl _ inferInstance _ (Try.isAgg28 _) (Try.sizeOf28 _) _ (by first | exact Kx.whole (by rfl) | (simp <;> rfl)) (by rfl) rfl) ?_; with_reducible rfl) | (refine Eq.trans (Kx.tells_load_x hW _ _ rfl _ inferInstance _ (Try.isAgg30 _) (Try.sizeOf30 _) _ (by first | exact Kx.whole (by rfl) | (simp <;> rfl)) (by rfl) rfl) ?_; with_reducible rfl) | (refine Eq.trans (Kx.tells_load_x hW _ _ rfl _ inferInstance _ (Try.isAgg34 _) (Try.sizeOf34 _) _ (by first | exact Kx.whole (by rfl) | (simp <;> rfl)) (by rfl) rfl) ?_; with_reducible rfl) | (refine Eq.trans (Kx.tells_load_x hW _ _ rfl _ inferInstance _ (Try.isAgg26 _) (Try.sizeOf26 _) _ (by first | exact Kx.whole (by rfl) | (simp <;> rfl)) (by rfl) rfl) ?_; with_reducible rfl))
  case f19_55 => (go_simp; try with_reducible rfl)
  refine anyW_call (i := 20) (v := ?v20_56) (f := ?g20_56) (args := ?s20_56) (a' := ?a20_56) (by first | exact Kx.bears_x | exact bears_u | assumption) rfl (by kernel_rfl) (by kernel_rfl) (by kernel_rfl) (fun _ _ _ h => h) (by kernel_rfl) ?c20_56 ?w20_56 ?y20_56 ?f20_56 ?r20_56
  case w20_56 => kernel_rfl
  case y20_56 => (intro W hW; go_simp; first | (refine ⟨?_, ?_⟩ <;> with_reducible rfl) | with_reducible rfl)
  case c20_56 => (intro W hW; refine Calls.mono (P4.out W) ?_; rintro e w_ ⟨rfl, hb_⟩; refine ⟨?_, by first | exact hb_ | exact hb_ ▸ Below.refl _ _⟩; with_reducible rfl)
  case f20_56 => (go_simp; try with_reducible rfl)
  refine anyW_call (i := 21) (v := ?v21_57) (f := ?g21_57) (args := ?s21_57) (a' := ?a21_57) (by first | exact Kx.bears_x | exact bears_u | assumption) rfl (by kernel_rfl) (by kernel_rfl) (by kernel_rfl) (fun _ _ _ h => h) (by kernel_rfl) ?c21_57 ?w21_57 ?y21_57 ?f21_57 ?r21_57
  case w21_57 => kernel_rfl
  case y21_57 => (intro W hW; go_simp; first | (refine ⟨?_, ?_⟩ <;> with_reducible rfl) | with_reducible rfl)
  case c21_57 => (intro W hW; refine Calls.mono (S2.out W hW.below) ?_; rintro e w_ ⟨rfl, hb_⟩; refine ⟨?_, by first | exact hb_ | exact hb_ ▸ Below.refl _ _⟩; with_reducible rfl)
  case f21_57 => (go_simp; try with_reducible rfl)
  refine anyW_take (i := 22) (v := ?v22_58) (a' := ?a22_58) (by first | exact Kx.bears_x | exact bears_u | assumption) rfl (by kernel_rfl) (by kernel_rfl) (by kernel_rfl) (fun _ _ _ h => h) (by kernel_rfl) ?w22_58 ?y22_58 ?f22_58 ?r22_58
  case w22_58 => kernel_rfl
  case y22_58 => (intro w hC; go_simp; try with_reducible rfl)
  case f22_58 => (go_simp; try with_reducible rfl)
  refine anyW_take (i := 23) (v := ?v23_59) (a' := ?a23_59) (by first | exact Kx.bears_x | exact bears_u | assumption) rfl (by kernel_rfl) (by kernel_rfl) (by kernel_rfl) (fun _ _ _ h => h) (by kernel_rfl) ?w23_59 ?y23_59 ?f23_59 ?r23_59
  case w23_59 => kernel_rfl
  case y23_59 => (intro w hC; go_simp; try with_reducible rfl)
  case f23_59 => (go_simp; try with_reducible rfl)
  refine anyW_take (i := 24) (v := ?v24_60) (a' := ?a24_60) (by first | exact Kx.bears_x | exact bears_u | assumption) rfl (by kernel_rfl) (by kernel_rfl) (by kernel_rfl) (fun _ _ _ h => h) (by kernel_rfl) ?w24_60 ?y24_60 ?f24_60 ?r24_60
  case w24_60 => kernel_rfl
  case y24_60 => (intro w hC; go_simp; try with_reducible rfl)
  case f24_60 => (go_simp; try with_reducible rfl)
  refine anyW_take (i := 25) (v := ?v25_61) (a' := ?a25_61) (by first | exact Kx.bears_x | exact bears_u | assumption) rfl (by kernel_rfl) (by kernel_rfl) (by kernel_rfl) (fun _ _ _ h => h) (by kernel_rfl) ?w25_61 ?y25_61 ?f25_61 ?r25_61
  case w25_61 => kernel_rfl
  case y25_61 => (intro W hW; first | (refine Eq.trans (Kx.tells_load1_x hW _ _ rfl _ inferInstance (Try.isAgg2 _) rfl) ?_; with_reducible rfl) | (refine Eq.trans (Kx.tells_old_x hW _ rfl (Try.isAgg2 _) HC.out) ?_; with_reducible rfl) | (refine Eq.trans (Kx.tells_load_x hW _ _ rfl _ inferInstance _ (Try.isAgg28 _) (Try.sizeOf28 _) _ (by first | exact Kx.whole (by rfl) | (simp <;> rfl)) (by rfl) rfl) ?_; with_reducible rfl) | (refine Eq.trans (Kx.tells_load_x hW _ _ rfl _ inferInstance _ (Try.isAgg30 _) (Try.sizeOf30 _) _ (by first | exact Kx.whole (by rfl) | (simp <;> rfl)) (by rfl) rfl) ?_; with_reducible rfl) | (refine Eq.trans (Kx.tells_load_x hW _ _ rfl _ inferInstance _ (Try.isAgg34 _) (Try.sizeOf34 _) _ (by first | exact Kx.whole (by rfl) | (simp <;> rfl)) (by rfl) rfl) ?_; with_reducible rfl) | (refine Eq.trans (Kx.tells_load_x hW _ _ rfl _ inferInstance _ (Try.isAgg26 _) (Try.sizeOf26 _) _ (by first | exact Kx.whole (by rfl) | (simp <;> rfl)) (by rfl) rfl) ?_; with_reducible rfl))
  case f25_61 => (go_simp; try with_reducible rfl)
  refine anyW_take (i := 26) (v := ?v26_62) (a' := ?a26_62) (by first | exact Kx.bears_x | exact bears_u | assumption) rfl (by kernel_rfl) (by kernel_rfl) (by kernel_rfl) (fun _ _ _ h => h) (by kernel_rfl) ?w26_62 ?y26_62 ?f26_62 ?r26_62
  case w26_62 => kernel_rfl
  case y26_62 => (intro w hC; go_simp; try with_reducible rfl)
  case f26_62 => (go_simp; try with_reducible rfl)
  refine anyW_take (i := 27) (v := ?v27_63) (a' := ?a27_63) (by first | exact Kx.bears_x | exact bears_u | assumption) rfl (by kernel_rfl) (by kernel_rfl) (by kernel_rfl) (fun _ _ _ h => h) (by kernel_rfl) ?w27_63 ?y27_63 ?f27_63 ?r27_63
  case w27_63 => kernel_rfl
  case y27_63 => (intro W hW; first | (refine Eq.trans (Kx.tells_load1_x hW _ _ rfl _ inferInstance (Try.isAgg2 _) rfl) ?_; with_reducible rfl) | (refine Eq.trans (Kx.tells_old_x hW _ rfl (Try.isAgg2 _) HC.out) ?_; with_reducible rfl) | (refine Eq.trans (Kx.tells_load_x hW _ _ rfl _ inferInstance _ (Try.isAgg28 _) (Try.sizeOf28 _) _ (by first | exact Kx.whole (by rfl) | (simp <;> rfl)) (by rfl) rfl) ?_; with_reducible rfl) | (refine Eq.trans (Kx.tells_load_x hW _ _ rfl _ inferInstance _ (Try.isAgg30 _) (Try.sizeOf30 _) _ (by first | exact Kx.whole (by rfl) | (simp <;> rfl)) (by rfl) rfl) ?_; with_reducible rfl) | (refine Eq.trans (Kx.tells_load_x hW _ _ rfl _ inferInstance _ (Try.isAgg34 _) (Try.sizeOf34 _) _ (by first | exact Kx.whole (by rfl) | (simp <;> rfl)) (by rfl) rfl) ?_; with_reducible rfl) | (refine Eq.trans (Kx.tells_load_x hW _ _ rfl _ inferInstance _ (Try.isAgg26 _) (Try.sizeOf26 _) _ (by first | exact Kx.whole (by rfl) | (simp <;> rfl)) (by rfl) rfl) ?_; with_reducible rfl))
  case f27_63 => (go_simp; try with_reducible rfl)
  refine anyW_take (i := 28) (v := ?v28_64) (a' := ?a28_64) (by first | exact Kx.bears_x | exact bears_u | assumption) rfl (by kernel_rfl) (by kernel_rfl) (by kernel_rfl) (fun _ _ _ h => h) (by kernel_rfl) ?w28_64 ?y28_64 ?f28_64 ?r28_64
  case w28_64 => kernel_rfl
  case y28_64 => (intro w hC; go_simp; try with_reducible rfl)
  case f28_64 => (go_simp; try with_reducible rfl)
  refine anyW_take (i := 29) (v := ?v29_65) (a' := ?a29_65) (by first | exact Kx.bears_x | exact bears_u | assumption) rfl (by kernel_rfl) (by kernel_rfl) (by kernel_rfl) (fun _ _ _ h => h) (by kernel_rfl) ?w29_65 ?y29_65 ?f29_65 ?r29_65
  case w29_65 => kernel_rfl
  case y29_65 => (intro W hW; first | (refine Eq.trans (Kx.tells_load_x (v := .agg m.pl.cells.toArray) hW b6 11 rfl m.cells inferInstance 12 (Try.isAgg26 _) (Try.sizeOf26 _) m.pl.cells rfl rfl rfl) ?_; with_reducible rfl))
  case f29_65 => (go_simp; try with_reducible rfl)
  refine anyW_call (i := 30) (v := ?v30_66) (f := ?g30_66) (args := ?s30_66) (a' := ?a30_66) (by first | exact Kx.bears_x | exact bears_u | assumption) rfl (by kernel_rfl) (by kernel_rfl) (by kernel_rfl) (fun _ _ _ h => h) (by kernel_rfl) ?c30_66 ?w30_66 ?y30_66 ?f30_66 ?r30_66
  case w30_66 => kernel_rfl
  case y30_66 => (intro W hW; go_simp; first | (refine ⟨?_, ?_⟩ <;> with_reducible rfl) | with_reducible rfl)
  case c30_66 => (intro W hW; refine Calls.mono (P5.out W) ?_; rintro e w_ ⟨rfl, hb_⟩; refine ⟨?_, by first | exact hb_ | exact hb_ ▸ Below.refl _ _⟩; with_reducible rfl)
  case f30_66 => (go_simp; try with_reducible rfl)
  refine anyW_take (i := 31) (v := ?v31_67) (a' := ?a31_67) (by first | exact Kx.bears_x | exact bears_u | assumption) rfl (by kernel_rfl) (by kernel_rfl) (by kernel_rfl) (fun _ _ _ h => h) (by kernel_rfl) ?w31_67 ?y31_67 ?f31_67 ?r31_67
  case w31_67 => kernel_rfl
  case y31_67 => (intro w hC; go_simp; try with_reducible rfl)
  case f31_67 => (go_simp; try with_reducible rfl)
  refine anyW_take (i := 32) (v := ?v32_68) (a' := ?a32_68) (by first | exact Kx.bears_x | exact bears_u | assumption) rfl (by kernel_rfl) (by kernel_rfl) (by kernel_rfl) (fun _ _ _ h => h) (by kernel_rfl) ?w32_68 ?y32_68 ?f32_68 ?r32_68
  case w32_68 => kernel_rfl
  case y32_68 => (intro W hW; first | (refine Eq.trans (Kx.tells_load1_x hW _ _ rfl _ inferInstance (Try.isAgg2 _) rfl) ?_; with_reducible rfl) | (refine Eq.trans (Kx.tells_old_x hW _ rfl (Try.isAgg2 _) HC.out) ?_; with_reducible rfl) | (refine Eq.trans (Kx.tells_load_x hW _ _ rfl _ inferInstance _ (Try.isAgg28 _) (Try.sizeOf28 _) _ (by first | exact Kx.whole (by rfl) | (simp <;> rfl)) (by rfl) rfl) ?_; with_reducible rfl) | (refine Eq.trans (Kx.tells_load_x hW _ _ rfl _ inferInstance _ (Try.isAgg30 _) (Try.sizeOf30 _) _ (by first | exact Kx.whole (by rfl) | (simp <;> rfl)) (by rfl) rfl) ?_; with_reducible rfl) | (refine Eq.trans (Kx.tells_load_x hW _ _ rfl _ inferInstance _ (Try.isAgg34 _) (Try.sizeOf34 _) _ (by first | exact Kx.whole (by rfl) | (simp <;> rfl)) (by rfl) rfl) ?_; with_reducible rfl) | (refine Eq.trans (Kx.tells_load_x hW _ _ rfl _ inferInstance _ (Try.isAgg26 _) (Try.sizeOf26 _) _ (by first | exact Kx.whole (by rfl) | (simp <;> rfl)) (by rfl) rfl) ?_; with_reducible rfl))
  case f32_68 => (go_simp; try with_reducible rfl)
  refine anyW_take (i := 33) (v := ?v33_69) (a' := ?a33_69) (by first | exact Kx.bears_x | exact bears_u | assumption) rfl (by kernel_rfl) (by kernel_rfl) (by kernel_rfl) (fun _ _ _ h => h) (by kernel_rfl) ?w33_69 ?y33_69 ?f33_69 ?r33_69
  case w33_69 => kernel_rfl
  case y33_69 => (intro w hC; go_simp; try with_reducible rfl)
  case f33_69 => (go_simp; try with_reducible rfl)
  refine anyW_take (i := 34) (v := ?v34_70) (a' := ?a34_70) (by first | exact Kx.bears_x | exact bears_u | assumption) rfl (by kernel_rfl) (by kernel_rfl) (by kernel_rfl) (fun _ _ _ h => h) (by kernel_rfl) ?w34_70 ?y34_70 ?f34_70 ?r34_70
  case w34_70 => kernel_rfl
  case y34_70 => (intro W hW; first | (refine Eq.trans (Kx.tells_load1_x hW _ _ rfl _ inferInstance (Try.isAgg2 _) rfl) ?_; with_reducible rfl) | (refine Eq.trans (Kx.tells_old_x hW _ rfl (Try.isAgg2 _) HC.out) ?_; with_reducible rfl) | (refine Eq.trans (Kx.tells_load_x hW _ _ rfl _ inferInstance _ (Try.isAgg28 _) (Try.sizeOf28 _) _ (by first | exact Kx.whole (by rfl) | (simp <;> rfl)) (by rfl) rfl) ?_; with_reducible rfl) | (refine Eq.trans (Kx.tells_load_x hW _ _ rfl _ inferInstance _ (Try.isAgg30 _) (Try.sizeOf30 _) _ (by first | exact Kx.whole (by rfl) | (simp <;> rfl)) (by rfl) rfl) ?_; with_reducible rfl) | (refine Eq.trans (Kx.tells_load_x hW _ _ rfl _ inferInstance _ (Try.isAgg34 _) (Try.sizeOf34 _) _ (by first | exact Kx.whole (by rfl) | (simp <;> rfl)) (by rfl) rfl) ?_; with_reducible rfl) | (refine Eq.trans (Kx.tells_load_x hW _ _ rfl _ inferInstance _ (Try.isAgg26 _) (Try.sizeOf26 _) _ (by first | exact Kx.whole (by rfl) | (simp <;> rfl)) (by rfl) rfl) ?_; with_reducible rfl))
  case f34_70 => (go_simp; try with_reducible rfl)
  refine anyW_take (i := 35) (v := ?v35_71) (a' := ?a35_71) (by first | exact Kx.bears_x | exact bears_u | assumption) rfl (by kernel_rfl) (by kernel_rfl) (by kernel_rfl) (fun _ _ _ h => h) (by kernel_rfl) ?w35_71 ?y35_71 ?f35_71 ?r35_71
  case w35_71 => kernel_rfl
  case y35_71 => (intro w hC; go_simp; try with_reducible rfl)
  case f35_71 => (go_simp; try with_reducible rfl)
  refine anyW_take (i := 36) (v := ?v36_72) (a' := ?a36_72) (by first | exact Kx.bears_x | exact bears_u | assumption) rfl (by kernel_rfl) (by kernel_rfl) (by kernel_rfl) (fun _ _ _ h => h) (by kernel_rfl) ?w36_72 ?y36_72 ?f36_72 ?r36_72
  case w36_72 => kernel_rfl
  case y36_72 => (intro W hW; first | (refine Eq.trans (Kx.tells_load_x (v := .agg m.pl.cells.toArray) hW b6 11 rfl m.cells inferInstance 12 (Try.isAgg26 _) (Try.sizeOf26 _) m.pl.cells rfl rfl rfl) ?_; with_reducible rfl))
  case f36_72 => (go_simp; try with_reducible rfl)
  refine anyW_call (i := 37) (v := ?v37_73) (f := ?g37_73) (args := ?s37_73) (a' := ?a37_73) (by first | exact Kx.bears_x | exact bears_u | assumption) rfl (by kernel_rfl) (by kernel_rfl) (by kernel_rfl) (fun _ _ _ h => h) (by kernel_rfl) ?c37_73 ?w37_73 ?y37_73 ?f37_73 ?r37_73
  case w37_73 => kernel_rfl
  case y37_73 => (intro W hW; go_simp; first | (refine ⟨?_, ?_⟩ <;> with_reducible rfl) | with_reducible rfl)
  case c37_73 => (intro W hW; refine Calls.mono (P6.out W) ?_; rintro e w_ ⟨rfl, hb_⟩; refine ⟨?_, by first | exact hb_ | exact hb_ ▸ Below.refl _ _⟩; with_reducible rfl)
  case f37_73 => (go_simp; try with_reducible rfl)
  refine anyW_call (i := 38) (v := ?v38_74) (f := ?g38_74) (args := ?s38_74) (a' := ?a38_74) (by first | exact Kx.bears_x | exact bears_u | assumption) rfl (by kernel_rfl) (by kernel_rfl) (by kernel_rfl) (fun _ _ _ h => h) (by kernel_rfl) ?c38_74 ?w38_74 ?y38_74 ?f38_74 ?r38_74
  case w38_74 => kernel_rfl
  case y38_74 => (intro W hW; go_simp; first | (refine ⟨?_, ?_⟩ <;> with_reducible rfl) | with_reducible rfl)
  case c38_74 => (intro W hW; refine Calls.mono (S3.out W hW.below) ?_; rintro e w_ ⟨rfl, hb_⟩; refine ⟨?_, by first | exact hb_ | exact hb_ ▸ Below.refl _ _⟩; with_reducible rfl)
  case f38_74 => (go_simp; try with_reducible rfl)
  refine anyW_take (i := 39) (v := ?v39_75) (a' := ?a39_75) (by first | exact Kx.bears_x | exact bears_u | assumption) rfl (by kernel_rfl) (by kernel_rfl) (by kernel_rfl) (fun _ _ _ h => h) (by kernel_rfl) ?w39_75 ?y39_75 ?f39_75 ?r39_75
  case w39_75 => kernel_rfl
  case y39_75 => (intro w hC; go_simp; try with_reducible rfl)
  case f39_75 => (go_simp; try with_reducible rfl)
  refine anyW_take (i := 40) (v := ?v40_76) (a' := ?a40_76) (by first | exact Kx.bears_x | exact bears_u | assumption) rfl (by kernel_rfl) (by kernel_rfl) (by kernel_rfl) (fun _ _ _ h => h) (by kernel_rfl) ?w40_76 ?y40_76 ?f40_76 ?r40_76
  case w40_76 => kernel_rfl
  case y40_76 => (intro w hC; go_simp; try with_reducible rfl)
  case f40_76 => (go_simp; try with_reducible rfl)
  refine anyW_take (i := 41) (v := ?v41_77) (a' := ?a41_77) (by first | exact Kx.bears_x | exact bears_u | assumption) rfl (by kernel_rfl) (by kernel_rfl) (by kernel_rfl) (fun _ _ _ h => h) (by kernel_rfl) ?w41_77 ?y41_77 ?f41_77 ?r41_77
  case w41_77 => kernel_rfl
  case y41_77 => (intro W hW; first | (refine Eq.trans (Kx.tells_load1_x hW _ _ rfl _ inferInstance (Try.isAgg2 _) rfl) ?_; with_reducible rfl) | (refine Eq.trans (Kx.tells_old_x hW _ rfl (Try.isAgg2 _) HC.out) ?_; with_reducible rfl) | (refine Eq.trans (Kx.tells_load_x hW _ _ rfl _ inferInstance _ (Try.isAgg28 _) (Try.sizeOf28 _) _ (by first | exact Kx.whole (by rfl) | (simp <;> rfl)) (by rfl) rfl) ?_; with_reducible rfl) | (refine Eq.trans (Kx.tells_load_x hW _ _ rfl _ inferInstance _ (Try.isAgg30 _) (Try.sizeOf30 _) _ (by first | exact Kx.whole (by rfl) | (simp <;> rfl)) (by rfl) rfl) ?_; with_reducible rfl) | (refine Eq.trans (Kx.tells_load_x hW _ _ rfl _ inferInstance _ (Try.isAgg34 _) (Try.sizeOf34 _) _ (by first | exact Kx.whole (by rfl) | (simp <;> rfl)) (by rfl) rfl) ?_; with_reducible rfl) | (refine Eq.trans (Kx.tells_load_x hW _ _ rfl _ inferInstance _ (Try.isAgg26 _) (Try.sizeOf26 _) _ (by first | exact Kx.whole (by rfl) | (simp <;> rfl)) (by rfl) rfl) ?_; with_reducible rfl))
  case f41_77 => (go_simp; try with_reducible rfl)
  refine anyW_take (i := 42) (v := ?v42_78) (a' := ?a42_78) (by first | exact Kx.bears_x | exact bears_u | assumption) rfl (by kernel_rfl) (by kernel_rfl) (by kernel_rfl) (fun _ _ _ h => h) (by kernel_rfl) ?w42_78 ?y42_78 ?f42_78 ?r42_78
  case w42_78 => kernel_rfl
  case y42_78 => (intro w hC; go_simp; try with_reducible rfl)
  case f42_78 => (go_simp; try with_reducible rfl)
  refine anyW_call (i := 43) (v := ?v43_79) (f := ?g43_79) (args := ?s43_79) (a' := ?a43_79) (by first | exact Kx.bears_x | exact bears_u | assumption) rfl (by kernel_rfl) (by kernel_rfl) (by kernel_rfl) (fun _ _ _ h => h) (by kernel_rfl) ?c43_79 ?w43_79 ?y43_79 ?f43_79 ?r43_79
  case w43_79 => kernel_rfl
  case y43_79 => (intro W hW; go_simp; first | (refine ⟨?_, ?_⟩ <;> with_reducible rfl) | with_reducible rfl)
  case c43_79 => (intro W hW; refine Calls.mono (P7.out W) ?_; rintro e w_ ⟨rfl, hb_⟩; refine ⟨?_, by first | exact hb_ | exact hb_ ▸ Below.refl _ _⟩; with_reducible rfl)
  case f43_79 => (go_simp; try with_reducible rfl)
  refine anyW_take (i := 44) (v := ?v44_80) (a' := ?a44_80) (by first | exact Kx.bears_x | exact bears_u | assumption) rfl (by kernel_rfl) (by kernel_rfl) (by kernel_rfl) (fun _ _ _ h => h) (by kernel_rfl) ?w44_80 ?y44_80 ?f44_80 ?r44_80
  case w44_80 => kernel_rfl
  case y44_80 => (intro W hW; first | (refine Eq.trans (Kx.tells_load1_x hW _ _ rfl _ inferInstance (Try.isAgg2 _) rfl) ?_; with_reducible rfl) | (refine Eq.trans (Kx.tells_old_x hW _ rfl (Try.isAgg2 _) HC.out) ?_; with_reducible rfl) | (refine Eq.trans (Kx.tells_load_x hW _ _ rfl _ inferInstance _ (Try.isAgg28 _) (Try.sizeOf28 _) _ (by first | exact Kx.whole (by rfl) | (simp <;> rfl)) (by rfl) rfl) ?_; with_reducible rfl) | (refine Eq.trans (Kx.tells_load_x hW _ _ rfl _ inferInstance _ (Try.isAgg30 _) (Try.sizeOf30 _) _ (by first | exact Kx.whole (by rfl) | (simp <;> rfl)) (by rfl) rfl) ?_; with_reducible rfl) | (refine Eq.trans (Kx.tells_load_x hW _ _ rfl _ inferInstance _ (Try.isAgg34 _) (Try.sizeOf34 _) _ (by first | exact Kx.whole (by rfl) | (simp <;> rfl)) (by rfl) rfl) ?_; with_reducible rfl) | (refine Eq.trans (Kx.tells_load_x hW _ _ rfl _ inferInstance _ (Try.isAgg26 _) (Try.sizeOf26 _) _ (by first | exact Kx.whole (by rfl) | (simp <;> rfl)) (by rfl) rfl) ?_; with_reducible rfl))
  case f44_80 => (go_simp; try with_reducible rfl)
  refine anyW_take (i := 45) (v := ?v45_81) (a' := ?a45_81) (by first | exact Kx.bears_x | exact bears_u | assumption) rfl (by kernel_rfl) (by kernel_rfl) (by kernel_rfl) (fun _ _ _ h => h) (by kernel_rfl) ?w45_81 ?y45_81 ?f45_81 ?r45_81
  case w45_81 => kernel_rfl
  case y45_81 => (intro w hC; go_simp; try with_reducible rfl)
  case f45_81 => (go_simp; try with_reducible rfl)
  refine anyW_call (i := 46) (v := ?v46_82) (f := ?g46_82) (args := ?s46_82) (a' := ?a46_82) (by first | exact Kx.bears_x | exact bears_u | assumption) rfl (by kernel_rfl) (by kernel_rfl) (by kernel_rfl) (fun _ _ _ h => h) (by kernel_rfl) ?c46_82 ?w46_82 ?y46_82 ?f46_82 ?r46_82
  case w46_82 => kernel_rfl
  case y46_82 => (intro W hW; go_simp; first | (refine ⟨?_, ?_⟩ <;> with_reducible rfl) | with_reducible rfl)
  case c46_82 => (intro W hW; refine Calls.mono (P8.out W) ?_; rintro e w_ ⟨rfl, hb_⟩; refine ⟨?_, by first | exact hb_ | exact hb_ ▸ Below.refl _ _⟩; with_reducible rfl)
  case f46_82 => (go_simp; try with_reducible rfl)
  refine anyW_take (i := 47) (v := ?v47_83) (a' := ?a47_83) (by first | exact Kx.bears_x | exact bears_u | assumption) rfl (by kernel_rfl) (by kernel_rfl) (by kernel_rfl) (fun _ _ _ h => h) (by kernel_rfl) ?w47_83 ?y47_83 ?f47_83 ?r47_83
  case w47_83 => kernel_rfl
  case y47_83 => (intro w hC; go_simp; try with_reducible rfl)
  case f47_83 => (go_simp; try with_reducible rfl)
  refine anyW_take (i := 48) (v := ?v48_84) (a' := ?a48_84) (by first | exact Kx.bears_x | exact bears_u | assumption) rfl (by kernel_rfl) (by kernel_rfl) (by kernel_rfl) (fun _ _ _ h => h) (by kernel_rfl) ?w48_84 ?y48_84 ?f48_84 ?r48_84
  case w48_84 => kernel_rfl
  case y48_84 => (intro w hC; go_simp; try with_reducible rfl)
  case f48_84 => (go_simp; try with_reducible rfl)
  refine anyW_take (i := 49) (v := ?v49_85) (a' := ?a49_85) (by first | exact Kx.bears_x | exact bears_u | assumption) rfl (by kernel_rfl) (by kernel_rfl) (by kernel_rfl) (fun _ _ _ h => h) (by kernel_rfl) ?w49_85 ?y49_85 ?f49_85 ?r49_85
  case w49_85 => kernel_rfl
  case y49_85 => (intro w hC; go_simp; try with_reducible rfl)
  case f49_85 => (go_simp; try with_reducible rfl)
  refine anyW_done (by kernel_rfl) ?_
  clear HB
  intro w_ HB_
  have HB := Lib.hid HB_
  clear HB_
  go_wp2_with fail
  go_ret
  exact ⟨by simp, HB.out.below⟩
end Go.Proofs.Yteebjplkkglfjaa
