/- One vote put in, votes alike: the document's. -/
import Derived.Test.YtpchkhphpcopkaaTe
import Derived.Test.YtpchkhphpcopkaaTi
namespace Go.Proofs.Ytpchkhphpcopkaa
open Go.RowKit Go.Shelf Km Kx

/-- the observer's cell of an element of a row of the call's own -/
theorem Kx.Bxs.rowWho {w0 w : World} {l : List (Nat × List Value)} {r : List Rw} {g : Nat} {x : Rw} (h : Bxs w0 w l r) (hm : InR (some ⟨g, 0, none⟩) x r) {ls : List Tm.Vt} (hx : x.xs = vvs ls) {k : Nat} {v : Tm.Vt} (hk : ls[k]? = some v) : w.cell? ⟨g, k * 3, none⟩ = some (.int .i64 v.o) := by
  obtain ⟨ad, e, hc⟩ := h.rowCells (hm := hm) hx hk
  cases e
  have := hc 0 _ rfl
  rwa [Addr.add_zero', Addr.add_mid, Nat.zero_add] at this
set_option maxRecDepth 100000 in
set_option maxHeartbeats 2000000 in
theorem RPut_any (A : Option Addr) (n cap B : Nat) (l : List Tm.Vt) (v : Tm.Vt) (w : World) (hr : Rd w B A (vvs l)) (hB : B ≤ w.heap.size) (hn : l.length = n) (hm : n ≤ 90000) :
    Calls Try.prog 12 #[.slice A n cap, .agg (vv v).toArray] w (PutEnd w (Tm.put l v)) := by
  unfold PutEnd
  have HB := Lib.hid (Bxs.start w)
  have HR := Lib.hid (hr.more hB)
  have HN := Lib.hid hn
  have hv1 : (vv v).length = 3 := rfl
  clear hr hB hn
  go_enter Try.func12, Try.ntmps12
  go_wp2_with (first | ((with_reducible refine Kx.alloced_gate ?_); refine Kx.absorb_row 0 3 rfl (by decide) HB ?_; clear HB; intro w_ HB) | (at_builtin; first | (refine Kx.wpList_app_x HB rfl _ _ 22 rfl _ _ _ rfl 24 25 3 _ rfl Try.underlying22 (by kernel_rfl) (by decide) _ _ _ rfl _ (vvs l) (HR.out.below HB.out.below) (by (first | (rw [vvs_len, HN.out]) | exact vvs_cells l | (unfold maxLen; omega) | omega)) (by (first | (rw [vvs_len, HN.out]) | exact vvs_cells l | (unfold maxLen; omega) | omega)) (by (first | (rw [vvs_len, HN.out]) | exact vvs_cells l | (unfold maxLen; omega) | omega)) (by (first | (rw [vvs_len, HN.out]) | exact vvs_cells l | (unfold maxLen; omega) | omega)) ?_; clear HB; intro A_ c_ w_ hl_ hm_ HB; refine Kx.framed ?_ (by simp only [Act.put, List.setIfInBounds_toArray, List.set_cons_succ, List.set_cons_zero] <;> rfl)) | (refine Kx.wpList_appn_x HB rfl _ _ 22 rfl rfl 24 25 3 Try.underlying22 (by kernel_rfl) (by decide) _ _ _ rfl _ (vvs l) (HR.out.below HB.out.below) (by (first | (rw [vvs_len, HN.out]) | exact vvs_cells l | (unfold maxLen; omega) | omega)) (by (first | (rw [vvs_len, HN.out]) | exact vvs_cells l | (unfold maxLen; omega) | omega)) (by (first | (rw [vvs_len, HN.out]) | exact vvs_cells l | (unfold maxLen; omega) | omega)) (by (first | (rw [vvs_len, HN.out]) | exact vvs_cells l | (unfold maxLen; omega) | omega)) ?_; clear HB; intro A_ c_ w_ hl_ hm_ HB; refine Kx.framed ?_ (by simp only [Act.put, List.setIfInBounds_toArray, List.set_cons_succ, List.set_cons_zero] <;> rfl))) | (first | ((with_reducible refine Kx.absorb HB ?_); clear HB; intro w_ HB) | ((with_reducible refine Kx.box_gate (d := some 3) ?_); first | (refine Kx.wpList_boxa_x HB rfl _ _ rfl _ rfl ?_; clear HB; intro b3 w_ HB; refine Kx.framed ?_ (by simp only [Act.put, List.setIfInBounds_toArray, List.set_cons_succ, List.set_cons_zero] <;> rfl)) | (refine Kx.wpList_boxt_x HB rfl _ _ rfl _ rfl rfl ?_; clear HB; intro b3 w_ HB; refine Kx.framed ?_ (by simp only [Act.put, List.setIfInBounds_toArray, List.set_cons_succ, List.set_cons_zero] <;> rfl)) | (refine Kx.wpList_box1_x HB rfl _ _ rfl _ rfl rfl ?_; clear HB; intro b3 w_ HB; refine Kx.framed ?_ (by simp only [Act.put, List.setIfInBounds_toArray, List.set_cons_succ, List.set_cons_zero] <;> rfl))) | ((with_reducible refine Kx.alloc_gate (d := some 3) ?_); first | (refine Kx.wpList_alloca_x HB rfl _ rfl _ (Try.zeroValue25 _) ?_; clear HB; intro b3 w_ HB; refine Kx.framed ?_ (by simp only [Act.put, List.setIfInBounds_toArray, List.set_cons_succ, List.set_cons_zero] <;> rfl)) | (refine Kx.wpList_alloc1_x HB rfl _ rfl _ (Try.zeroValue3 _) rfl ?_; clear HB; intro b3 w_ HB; refine Kx.framed ?_ (by simp only [Act.put, List.setIfInBounds_toArray, List.set_cons_succ, List.set_cons_zero] <;> rfl))) | ((with_reducible refine Kx.box_gate ?_); first | (refine Kx.wpList_boxa_x HB rfl _ _ rfl _ rfl ?_; clear HB; intro b_ w_ HB; refine Kx.framed ?_ (by simp only [Act.put, List.setIfInBounds_toArray, List.set_cons_succ, List.set_cons_zero] <;> rfl)) | (refine Kx.wpList_boxt_x HB rfl _ _ rfl _ rfl rfl ?_; clear HB; intro b_ w_ HB; refine Kx.framed ?_ (by simp only [Act.put, List.setIfInBounds_toArray, List.set_cons_succ, List.set_cons_zero] <;> rfl)) | (refine Kx.wpList_box1_x HB rfl _ _ rfl _ rfl rfl ?_; clear HB; intro b_ w_ HB; refine Kx.framed ?_ (by simp only [Act.put, List.setIfInBounds_toArray, List.set_cons_succ, List.set_cons_zero] <;> rfl))) | ((with_reducible refine Kx.alloc_gate ?_); first | (refine Kx.wpList_alloca_x HB rfl _ rfl _ (Try.zeroValue25 _) ?_; clear HB; intro b_ w_ HB; refine Kx.framed ?_ (by simp only [Act.put, List.setIfInBounds_toArray, List.set_cons_succ, List.set_cons_zero] <;> rfl)) | (refine Kx.wpList_alloc1_x HB rfl _ rfl _ (Try.zeroValue3 _) rfl ?_; clear HB; intro b_ w_ HB; refine Kx.framed ?_ (by simp only [Act.put, List.setIfInBounds_toArray, List.set_cons_succ, List.set_cons_zero] <;> rfl))) | ((with_reducible refine Kx.loads_gate ?_); first | (refine Kx.wpList_load1_x HB rfl _ _ rfl _ rfl _ (Try.isAgg3 _) _ rfl (Kx.framed ?_ (by simp only [Act.put, List.setIfInBounds_toArray, List.set_cons_succ, List.set_cons_zero] <;> rfl))) | (refine Kx.wpList_load_x HB rfl _ _ rfl _ rfl _ _ (Try.isAgg25 _) (Try.sizeOf25 _) _ (by first | exact Kx.whole (by rfl) | (simp <;> rfl)) (by rfl) (Kx.framed ?_ (by simp only [Act.put, List.setIfInBounds_toArray, List.set_cons_succ, List.set_cons_zero] <;> rfl))) | (refine Kx.wpList_old_x HB rfl _ _ rfl _ rfl (Try.isAgg3 _) _ HC.out (Kx.framed ?_ (by simp only [Act.put, List.setIfInBounds_toArray, List.set_cons_succ, List.set_cons_zero] <;> rfl)))) | ((with_reducible refine Kx.loadg_gate ?_); first | (refine Kx.wpList_loadg_x HB _ _ rfl _ rfl _ (Try.isAgg3 _) _ rfl rfl (Kx.framed ?_ (by simp only [Act.put, List.setIfInBounds_toArray, List.set_cons_succ, List.set_cons_zero] <;> rfl))) | (refine Kx.wpList_loadga_x HB _ _ rfl _ rfl _ _ (Try.isAgg25 _) (Try.sizeOf25 _) _ (by first | exact Kx.whole (by rfl) | (simp <;> rfl)) (by rfl) rfl (Kx.framed ?_ (by simp only [Act.put, List.setIfInBounds_toArray, List.set_cons_succ, List.set_cons_zero] <;> rfl))) | (refine Kx.wpList_oldg_x HB _ _ rfl _ rfl (Try.isAgg3 _) _ HC.out rfl (Kx.framed ?_ (by simp only [Act.put, List.setIfInBounds_toArray, List.set_cons_succ, List.set_cons_zero] <;> rfl)))) | ((with_reducible refine Kx.store_gate ?_); first | (refine Kx.wpList_storewa_x HB rfl rfl _ _ _ rfl _ rfl _ rfl _ (by rfl) (by simp <;> rfl) (by rfl) ?_; clear HB; intro w_ HB) | (refine Kx.wpList_storea_x HB rfl rfl _ _ _ rfl _ rfl _ rfl _ _ (by simp [Kx.splice] <;> rfl) (by simp) (by simp <;> rfl) (by rfl) ?_; clear HB; intro w_ HB) | (refine Kx.wpList_storec_x HB rfl rfl _ _ _ rfl _ rfl rfl _ _ (by simp <;> rfl) (by simp) (by simp <;> rfl) ?_; clear HB; intro w_ HB) | (refine Kx.wpList_storet_x HB rfl rfl _ _ _ rfl _ rfl _ rfl rfl _ _ (by simp <;> rfl) (by simp) (by simp <;> rfl) ?_; clear HB; intro w_ HB) | (refine Kx.wpList_store1_x HB rfl rfl _ _ _ rfl _ rfl _ rfl rfl _ _ (by simp <;> rfl) (by simp) (by simp <;> rfl) ?_; clear HB; intro w_ HB))))
  simp only [Nat.zero_add, List.nil_append] at HB ⊢
  go_loopg [6] n (fun gh ix wr => ∃ k : Nat, gh + k = n ∧ ix = .int .i64 (k : Int) ∧ Hid (Bxs w wr [(b3, vv v)] [⟨A_, c_, 25, 3, n, vvs l⟩]) ∧ Hid (∀ (j : Nat) (x : Tm.Vt), j < k → l[j]? = some x → x.o ≠ v.o))
  case atStart => exact ⟨0, by omega, rfl, HB, Lib.hid (fun j x hj => by omega)⟩
  case round =>
    clear HB
    obtain ⟨k, hk, rfl, HB, HI⟩ := hrel
    by_cases hlt : k < n
    · obtain ⟨x, hx⟩ : ∃ x, l[k]? = some x := ⟨l[k]'(by rw [HN.out]; exact hlt), List.getElem?_eq_getElem _⟩
      obtain ⟨g, rfl⟩ := addr_row (HB.out.rows _ (List.mem_cons_self ..)).1 (by dsimp only; omega)
      have HX := Lib.hid hx
      have d3 : (k : Int) < (n : Int) := by omega
      clear hx
      by_cases hq : x.o = v.o
      · have d6 : (x.o == v.o) = true := by simp [hq]
        have hid := Tm.idx_is HX.out hq HI.out
        have HP := Lib.hid (Tm.put_set (l := l) (v := v) (by rw [hid, HN.out]; exact hlt))
        rw [hid] at HP
        have HL : Hid ((Tm.put l v).length = n) := Lib.hid (by rw [HP.out, List.length_set]; exact HN.out)
        have HS := Lib.hid (vvs_splice (l := l) (k := k) v (by rw [HN.out]; exact hlt))
        rw [← HP.out] at HS
        clear hq HP hid
        go_wp2_with fail
        refine Kx.region_x HB (fun i => false) (by kernel_rfl) ?_
        refine anyW_take (i := 0) (v := ?v0_1) (a' := ?a0_1) (by first | exact Kx.bears_x | assumption) rfl (by kernel_rfl) (by kernel_rfl) (by kernel_rfl) (fun _ _ _ h => h) (by kernel_rfl) ?w0_1 ?y0_1 ?f0_1 ?r0_1
        case w0_1 => kernel_rfl
        case y0_1 => (intro w hC; go_simp; try with_reducible rfl)
        case f0_1 => (go_simp; try with_reducible rfl)
        refine anyW_take (i := 1) (v := ?v1_2) (a' := ?a1_2) (by first | exact Kx.bears_x | assumption) rfl (by kernel_rfl) (by kernel_rfl) (by kernel_rfl) (fun _ _ _ h => h) (by kernel_rfl) ?w1_2 ?y1_2 ?f1_2 ?r1_2
        case w1_2 => kernel_rfl
        case y1_2 => (intro w hC; go_simp; try with_reducible rfl)
        case f1_2 => (go_simp; try with_reducible rfl)
        refine anyW_take (i := 2) (v := ?v2_3) (a' := ?a2_3) (by first | exact Kx.bears_x | assumption) rfl (by kernel_rfl) (by kernel_rfl) (by kernel_rfl) (fun _ _ _ h => h) (by kernel_rfl) ?w2_3 ?y2_3 ?f2_3 ?r2_3
        case w2_3 => kernel_rfl
        case y2_3 => (intro w hC; go_simp; try with_reducible rfl)
        case f2_3 => (go_simp; try with_reducible rfl)
        refine anyW_take (i := 3) (v := ?v3_4) (a' := ?a3_4) (by first | exact Kx.bears_x | assumption) rfl (by kernel_rfl) (by kernel_rfl) (by kernel_rfl) (fun _ _ _ h => h) (by kernel_rfl) ?w3_4 ?y3_4 ?f3_4 ?r3_4
        case w3_4 => kernel_rfl
        case y3_4 => (intro w hC; go_simp; try with_reducible rfl)
        case f3_4 => (go_simp; try with_reducible rfl)
        refine anyW_take (i := 4) (v := ?v4_5) (a' := ?a4_5) (by first | exact Kx.bears_x | assumption) rfl (by kernel_rfl) (by kernel_rfl) (by kernel_rfl) (fun _ _ _ h => h) (by kernel_rfl) ?w4_5 ?y4_5 ?f4_5 ?r4_5
        case w4_5 => kernel_rfl
        case y4_5 => (intro W hW; first | (refine Eq.trans (tells_cell (v := .int .i64 x.o) ⟨g, k * 3, none⟩ rfl (Try.isAgg3 _) (hW.rowWho inferInstance rfl HX.out)) ?_; with_reducible rfl))
        case f4_5 => (go_simp; try with_reducible rfl)
        refine anyW_take (i := 5) (v := ?v5_6) (a' := ?a5_6) (by first | exact Kx.bears_x | assumption) rfl (by kernel_rfl) (by kernel_rfl) (by kernel_rfl) (fun _ _ _ h => h) (by kernel_rfl) ?w5_6 ?y5_6 ?f5_6 ?r5_6
        case w5_6 => kernel_rfl
        case y5_6 => (intro w hC; go_simp; try with_reducible rfl)
        case f5_6 => (go_simp; try with_reducible rfl)
        refine anyW_take (i := 6) (v := ?v6_7) (a' := ?a6_7) (by first | exact Kx.bears_x | assumption) rfl (by kernel_rfl) (by kernel_rfl) (by kernel_rfl) (fun _ _ _ h => h) (by kernel_rfl) ?w6_7 ?y6_7 ?f6_7 ?r6_7
        case w6_7 => kernel_rfl
        case y6_7 => (intro W hW; first | (refine Eq.trans (Kx.tells_load1_x (v := .int .i64 v.o) hW b3 0 rfl (vv v) inferInstance (Try.isAgg3 _) rfl) ?_; with_reducible rfl))
        case f6_7 => (go_simp; try with_reducible rfl)
        refine anyW_take (i := 7) (v := ?v7_8) (a' := ?a7_8) (by first | exact Kx.bears_x | assumption) rfl (by kernel_rfl) (by kernel_rfl) (by kernel_rfl) (fun _ _ _ h => h) (by kernel_rfl) ?w7_8 ?y7_8 ?f7_8 ?r7_8
        case w7_8 => kernel_rfl
        case y7_8 => (intro w hC; go_simp; try with_reducible rfl)
        case f7_8 => (go_simp; try with_reducible rfl)
        refine anyW_done (by kernel_rfl) ?_
        clear HB
        intro w_ HB_
        have HB := Lib.hid HB_
        clear HB_
        go_wp2_with (first | ((with_reducible refine Kx.store_gate ?_); refine wpList_storeRow_x HB rfl rfl _ _ _ rfl g (k * 3) rfl (vv v) rfl (.head _) HS.out (by rw [vvs_len, HN.out]; show k * 3 + 3 ≤ n * 3; omega) (Try.sizeOf25 _) rfl ?_; clear HB; intro w3_ HB) | (first | ((with_reducible refine Kx.absorb HB ?_); clear HB; intro w_ HB) | ((with_reducible refine Kx.box_gate ?_); first | (refine Kx.wpList_boxa_x HB rfl _ _ rfl _ rfl ?_; clear HB; intro b_ w_ HB; refine Kx.framed ?_ (by simp only [Act.put, List.setIfInBounds_toArray, List.set_cons_succ, List.set_cons_zero] <;> rfl)) | (refine Kx.wpList_boxt_x HB rfl _ _ rfl _ rfl rfl ?_; clear HB; intro b_ w_ HB; refine Kx.framed ?_ (by simp only [Act.put, List.setIfInBounds_toArray, List.set_cons_succ, List.set_cons_zero] <;> rfl)) | (refine Kx.wpList_box1_x HB rfl _ _ rfl _ rfl rfl ?_; clear HB; intro b_ w_ HB; refine Kx.framed ?_ (by simp only [Act.put, List.setIfInBounds_toArray, List.set_cons_succ, List.set_cons_zero] <;> rfl))) | ((with_reducible refine Kx.alloc_gate ?_); first | (refine Kx.wpList_alloca_x HB rfl _ rfl _ (Try.zeroValue25 _) ?_; clear HB; intro b_ w_ HB; refine Kx.framed ?_ (by simp only [Act.put, List.setIfInBounds_toArray, List.set_cons_succ, List.set_cons_zero] <;> rfl)) | (refine Kx.wpList_alloc1_x HB rfl _ rfl _ (Try.zeroValue3 _) rfl ?_; clear HB; intro b_ w_ HB; refine Kx.framed ?_ (by simp only [Act.put, List.setIfInBounds_toArray, List.set_cons_succ, List.set_cons_zero] <;> rfl))) | ((with_reducible refine Kx.loads_gate ?_); first | (refine Kx.wpList_load1_x HB rfl _ _ rfl _ rfl _ (Try.isAgg3 _) _ rfl (Kx.framed ?_ (by simp only [Act.put, List.setIfInBounds_toArray, List.set_cons_succ, List.set_cons_zero] <;> rfl))) | (refine Kx.wpList_load_x HB rfl _ _ rfl _ rfl _ _ (Try.isAgg25 _) (Try.sizeOf25 _) _ (by first | exact Kx.whole (by rfl) | (simp <;> rfl)) (by rfl) (Kx.framed ?_ (by simp only [Act.put, List.setIfInBounds_toArray, List.set_cons_succ, List.set_cons_zero] <;> rfl))) | (refine Kx.wpList_old_x HB rfl _ _ rfl _ rfl (Try.isAgg3 _) _ HC.out (Kx.framed ?_ (by simp only [Act.put, List.setIfInBounds_toArray, List.set_cons_succ, List.set_cons_zero] <;> rfl)))) | ((with_reducible refine Kx.loadg_gate ?_); first | (refine Kx.wpList_loadg_x HB _ _ rfl _ rfl _ (Try.isAgg3 _) _ rfl rfl (Kx.framed ?_ (by simp only [Act.put, List.setIfInBounds_toArray, List.set_cons_succ, List.set_cons_zero] <;> rfl))) | (refine Kx.wpList_loadga_x HB _ _ rfl _ rfl _ _ (Try.isAgg25 _) (Try.sizeOf25 _) _ (by first | exact Kx.whole (by rfl) | (simp <;> rfl)) (by rfl) rfl (Kx.framed ?_ (by simp only [Act.put, List.setIfInBounds_toArray, List.set_cons_succ, List.set_cons_zero] <;> rfl))) | (refine Kx.wpList_oldg_x HB _ _ rfl _ rfl (Try.isAgg3 _) _ HC.out rfl (Kx.framed ?_ (by simp only [Act.put, List.setIfInBounds_toArray, List.set_cons_succ, List.set_cons_zero] <;> rfl)))) | ((with_reducible refine Kx.store_gate ?_); first | (refine Kx.wpList_storewa_x HB rfl rfl _ _ _ rfl _ rfl _ rfl _ (by rfl) (by simp <;> rfl) (by rfl) ?_; clear HB; intro w_ HB) | (refine Kx.wpList_storea_x HB rfl rfl _ _ _ rfl _ rfl _ rfl _ _ (by simp [Kx.splice] <;> rfl) (by simp) (by simp <;> rfl) (by rfl) ?_; clear HB; intro w_ HB) | (refine Kx.wpList_storec_x HB rfl rfl _ _ _ rfl _ rfl rfl _ _ (by simp <;> rfl) (by simp) (by simp <;> rfl) ?_; clear HB; intro w_ HB) | (refine Kx.wpList_storet_x HB rfl rfl _ _ _ rfl _ rfl _ rfl rfl _ _ (by simp <;> rfl) (by simp) (by simp <;> rfl) ?_; clear HB; intro w_ HB) | (refine Kx.wpList_store1_x HB rfl rfl _ _ _ rfl _ rfl _ rfl rfl _ _ (by simp <;> rfl) (by simp) (by simp <;> rfl) ?_; clear HB; intro w_ HB))))
        go_ret
        rw [HL.out]
        exact ⟨_, _, rfl, HB.out.below, (HB.out.rows _ (List.mem_cons_self ..)).1⟩
      · have HQ := Lib.hid hq
        have d6 : (x.o == v.o) = false := by simp [hq]
        clear hq
        go_wp2_with fail
        refine Kx.region_x HB (fun i => false) (by kernel_rfl) ?_
        refine anyW_take (i := 0) (v := ?v0_9) (a' := ?a0_9) (by first | exact Kx.bears_x | assumption) rfl (by kernel_rfl) (by kernel_rfl) (by kernel_rfl) (fun _ _ _ h => h) (by kernel_rfl) ?w0_9 ?y0_9 ?f0_9 ?r0_9
        case w0_9 => kernel_rfl
        case y0_9 => (intro w hC; go_simp; try with_reducible rfl)
        case f0_9 => (go_simp; try with_reducible rfl)
        refine anyW_take (i := 1) (v := ?v1_10) (a' := ?a1_10) (by first | exact Kx.bears_x | assumption) rfl (by kernel_rfl) (by kernel_rfl) (by kernel_rfl) (fun _ _ _ h => h) (by kernel_rfl) ?w1_10 ?y1_10 ?f1_10 ?r1_10
        case w1_10 => kernel_rfl
        case y1_10 => (intro w hC; go_simp; try with_reducible rfl)
        case f1_10 => (go_simp; try with_reducible rfl)
        refine anyW_take (i := 2) (v := ?v2_11) (a' := ?a2_11) (by first | exact Kx.bears_x | assumption) rfl (by kernel_rfl) (by kernel_rfl) (by kernel_rfl) (fun _ _ _ h => h) (by kernel_rfl) ?w2_11 ?y2_11 ?f2_11 ?r2_11
        case w2_11 => kernel_rfl
        case y2_11 => (intro w hC; go_simp; try with_reducible rfl)
        case f2_11 => (go_simp; try with_reducible rfl)
        refine anyW_take (i := 3) (v := ?v3_12) (a' := ?a3_12) (by first | exact Kx.bears_x | assumption) rfl (by kernel_rfl) (by kernel_rfl) (by kernel_rfl) (fun _ _ _ h => h) (by kernel_rfl) ?w3_12 ?y3_12 ?f3_12 ?r3_12
        case w3_12 => kernel_rfl
        case y3_12 => (intro w hC; go_simp; try with_reducible rfl)
        case f3_12 => (go_simp; try with_reducible rfl)
        refine anyW_take (i := 4) (v := ?v4_13) (a' := ?a4_13) (by first | exact Kx.bears_x | assumption) rfl (by kernel_rfl) (by kernel_rfl) (by kernel_rfl) (fun _ _ _ h => h) (by kernel_rfl) ?w4_13 ?y4_13 ?f4_13 ?r4_13
        case w4_13 => kernel_rfl
        case y4_13 => (intro W hW; first | (refine Eq.trans (tells_cell (v := .int .i64 x.o) ⟨g, k * 3, none⟩ rfl (Try.isAgg3 _) (hW.rowWho inferInstance rfl HX.out)) ?_; with_reducible rfl))
        case f4_13 => (go_simp; try with_reducible rfl)
        refine anyW_take (i := 5) (v := ?v5_14) (a' := ?a5_14) (by first | exact Kx.bears_x | assumption) rfl (by kernel_rfl) (by kernel_rfl) (by kernel_rfl) (fun _ _ _ h => h) (by kernel_rfl) ?w5_14 ?y5_14 ?f5_14 ?r5_14
        case w5_14 => kernel_rfl
        case y5_14 => (intro w hC; go_simp; try with_reducible rfl)
        case f5_14 => (go_simp; try with_reducible rfl)
        refine anyW_take (i := 6) (v := ?v6_15) (a' := ?a6_15) (by first | exact Kx.bears_x | assumption) rfl (by kernel_rfl) (by kernel_rfl) (by kernel_rfl) (fun _ _ _ h => h) (by kernel_rfl) ?w6_15 ?y6_15 ?f6_15 ?r6_15
        case w6_15 => kernel_rfl
        case y6_15 => (intro W hW; first | (refine Eq.trans (Kx.tells_load1_x (v := .int .i64 v.o) hW b3 0 rfl (vv v) inferInstance (Try.isAgg3 _) rfl) ?_; with_reducible rfl))
        case f6_15 => (go_simp; try with_reducible rfl)
        refine anyW_take (i := 7) (v := ?v7_16) (a' := ?a7_16) (by first | exact Kx.bears_x | assumption) rfl (by kernel_rfl) (by kernel_rfl) (by kernel_rfl) (fun _ _ _ h => h) (by kernel_rfl) ?w7_16 ?y7_16 ?f7_16 ?r7_16
        case w7_16 => kernel_rfl
        case y7_16 => (intro w hC; go_simp; try with_reducible rfl)
        case f7_16 => (go_simp; try with_reducible rfl)
        refine anyW_done (by kernel_rfl) ?_
        clear HB
        intro w_ HB_
        have HB := Lib.hid HB_
        clear HB_
        go_wp2_with fail
        go_roundg (gk - 1)
        case measure => omega
        case rel => exact ⟨k + 1, by omega, by go_num, HB, Lib.hid (fun j y hj hy => by
          rcases Nat.lt_or_ge j k with h | h
          · exact HI.out j y h hy
          · obtain rfl : j = k := by omega
            rw [HX.out] at hy; cases hy; exact HQ.out)⟩
    · obtain rfl : k = n := by omega
      have d0 : decide ((k : Int) < (k : Int)) = false := by simp
      have hid : Tm.idx l v.o = l.length := Tm.idx_none (fun j x hx => HI.out j x (by have := (List.getElem?_eq_some_iff.1 hx).1; rw [HN.out] at this; exact this) hx)
      have HP := Lib.hid (Tm.put_app hid)
      have HL : Hid ((Tm.put l v).length = k + 1) := Lib.hid (by rw [HP.out, List.length_append, HN.out]; rfl)
      clear hid
      go_wp2_with (first | (at_builtin; first | (refine Kx.wpList_app_x HB rfl _ _ 22 rfl _ _ _ rfl 24 25 3 _ rfl Try.underlying22 (by kernel_rfl) (by decide) _ _ _ rfl _ (vv v) (HB.out.rd) (by (first | rfl | exact vvs_cells [v] | (unfold maxLen; omega) | omega)) (by (first | rfl | exact vvs_cells [v] | (unfold maxLen; omega) | omega)) (by (first | rfl | exact vvs_cells [v] | (unfold maxLen; omega) | omega)) (by (first | rfl | exact vvs_cells [v] | (unfold maxLen; omega) | omega)) ?_; clear HB; intro A_ c_ w_ hl_ hm_ HB; refine Kx.framed ?_ (by simp only [Act.put, List.setIfInBounds_toArray, List.set_cons_succ, List.set_cons_zero] <;> rfl)) | (refine Kx.wpList_appn_x HB rfl _ _ 22 rfl rfl 24 25 3 Try.underlying22 (by kernel_rfl) (by decide) _ _ _ rfl _ (vv v) (HB.out.rd) (by (first | rfl | exact vvs_cells [v] | (unfold maxLen; omega) | omega)) (by (first | rfl | exact vvs_cells [v] | (unfold maxLen; omega) | omega)) (by (first | rfl | exact vvs_cells [v] | (unfold maxLen; omega) | omega)) (by (first | rfl | exact vvs_cells [v] | (unfold maxLen; omega) | omega)) ?_; clear HB; intro A_ c_ w_ hl_ hm_ HB; refine Kx.framed ?_ (by simp only [Act.put, List.setIfInBounds_toArray, List.set_cons_succ, List.set_cons_zero] <;> rfl))) | (first | ((with_reducible refine Kx.absorb HB ?_); clear HB; intro w_ HB) | ((with_reducible refine Kx.box_gate ?_); first | (refine Kx.wpList_boxa_x HB rfl _ _ rfl _ rfl ?_; clear HB; intro b_ w_ HB; refine Kx.framed ?_ (by simp only [Act.put, List.setIfInBounds_toArray, List.set_cons_succ, List.set_cons_zero] <;> rfl)) | (refine Kx.wpList_boxt_x HB rfl _ _ rfl _ rfl rfl ?_; clear HB; intro b_ w_ HB; refine Kx.framed ?_ (by simp only [Act.put, List.setIfInBounds_toArray, List.set_cons_succ, List.set_cons_zero] <;> rfl)) | (refine Kx.wpList_box1_x HB rfl _ _ rfl _ rfl rfl ?_; clear HB; intro b_ w_ HB; refine Kx.framed ?_ (by simp only [Act.put, List.setIfInBounds_toArray, List.set_cons_succ, List.set_cons_zero] <;> rfl))) | ((with_reducible refine Kx.alloc_gate ?_); first | (refine Kx.wpList_alloca_x HB rfl _ rfl _ (Try.zeroValue25 _) ?_; clear HB; intro b_ w_ HB; refine Kx.framed ?_ (by simp only [Act.put, List.setIfInBounds_toArray, List.set_cons_succ, List.set_cons_zero] <;> rfl)) | (refine Kx.wpList_alloc1_x HB rfl _ rfl _ (Try.zeroValue3 _) rfl ?_; clear HB; intro b_ w_ HB; refine Kx.framed ?_ (by simp only [Act.put, List.setIfInBounds_toArray, List.set_cons_succ, List.set_cons_zero] <;> rfl))) | ((with_reducible refine Kx.loads_gate ?_); first | (refine Kx.wpList_load1_x HB rfl _ _ rfl _ rfl _ (Try.isAgg3 _) _ rfl (Kx.framed ?_ (by simp only [Act.put, List.setIfInBounds_toArray, List.set_cons_succ, List.set_cons_zero] <;> rfl))) | (refine Kx.wpList_load_x HB rfl _ _ rfl _ rfl _ _ (Try.isAgg25 _) (Try.sizeOf25 _) _ (by first | exact Kx.whole (by rfl) | (simp <;> rfl)) (by rfl) (Kx.framed ?_ (by simp only [Act.put, List.setIfInBounds_toArray, List.set_cons_succ, List.set_cons_zero] <;> rfl))) | (refine Kx.wpList_old_x HB rfl _ _ rfl _ rfl (Try.isAgg3 _) _ HC.out (Kx.framed ?_ (by simp only [Act.put, List.setIfInBounds_toArray, List.set_cons_succ, List.set_cons_zero] <;> rfl)))) | ((with_reducible refine Kx.loadg_gate ?_); first | (refine Kx.wpList_loadg_x HB _ _ rfl _ rfl _ (Try.isAgg3 _) _ rfl rfl (Kx.framed ?_ (by simp only [Act.put, List.setIfInBounds_toArray, List.set_cons_succ, List.set_cons_zero] <;> rfl))) | (refine Kx.wpList_loadga_x HB _ _ rfl _ rfl _ _ (Try.isAgg25 _) (Try.sizeOf25 _) _ (by first | exact Kx.whole (by rfl) | (simp <;> rfl)) (by rfl) rfl (Kx.framed ?_ (by simp only [Act.put, List.setIfInBounds_toArray, List.set_cons_succ, List.set_cons_zero] <;> rfl))) | (refine Kx.wpList_oldg_x HB _ _ rfl _ rfl (Try.isAgg3 _) _ HC.out rfl (Kx.framed ?_ (by simp only [Act.put, List.setIfInBounds_toArray, List.set_cons_succ, List.set_cons_zero] <;> rfl)))) | ((with_reducible refine Kx.store_gate ?_); first | (refine Kx.wpList_storewa_x HB rfl rfl _ _ _ rfl _ rfl _ rfl _ (by rfl) (by simp <;> rfl) (by rfl) ?_; clear HB; intro w_ HB) | (refine Kx.wpList_storea_x HB rfl rfl _ _ _ rfl _ rfl _ rfl _ _ (by simp [Kx.splice] <;> rfl) (by simp) (by simp <;> rfl) (by rfl) ?_; clear HB; intro w_ HB) | (refine Kx.wpList_storec_x HB rfl rfl _ _ _ rfl _ rfl rfl _ _ (by simp <;> rfl) (by simp) (by simp <;> rfl) ?_; clear HB; intro w_ HB) | (refine Kx.wpList_storet_x HB rfl rfl _ _ _ rfl _ rfl _ rfl rfl _ _ (by simp <;> rfl) (by simp) (by simp <;> rfl) ?_; clear HB; intro w_ HB) | (refine Kx.wpList_store1_x HB rfl rfl _ _ _ rfl _ rfl _ rfl rfl _ _ (by simp <;> rfl) (by simp) (by simp <;> rfl) ?_; clear HB; intro w_ HB))))
      go_ret
      rw [HL.out, HP.out, vvs_app, vvs_one]
      exact ⟨_, _, rfl, HB.out.below, (HB.out.rows _ (List.mem_cons_self ..)).1⟩

set_option maxRecDepth 100000 in
set_option maxHeartbeats 4000000 in
theorem Same_any (A1 A2 : Option Addr) (n c1 c2 B : Nat) (l : List Tm.Vt) (w : World) (hr1 : Rd w B A1 (vvs l)) (hr2 : Rd w B A2 (vvs l)) (hn : l.length = n) (hm : n ≤ 100000) :
    Calls Try.prog 10 #[.slice A1 n c1, .slice A2 n c2] w fun e w' => e = .returned (.bool true) ∧ Below w.heap.size w w' := by
  have HB := Lib.hid (Bxs.start w)
  have HR1 := Lib.hid hr1
  have HR2 := Lib.hid hr2
  have HN := Lib.hid hn
  clear hr1 hr2 hn
  go_enter Try.func10, Try.ntmps10
  go_wp2_with fail
  go_loopg [5] n (fun gh ix wr => ∃ k : Nat, gh + k = n ∧ ix = .int .i64 (k : Int) ∧ Hid (Bxs w wr []))
  case atStart => exact ⟨0, by omega, rfl, HB⟩
  case round =>
    clear HB
    obtain ⟨k, hk, rfl, HB⟩ := hrel
    by_cases hlt : k < n
    · obtain ⟨x, hx⟩ : ∃ x, l[k]? = some x := ⟨l[k]'(by rw [HN.out]; exact hlt), List.getElem?_eq_getElem _⟩
      obtain ⟨ad1, rfl, -, p0, p1, p2⟩ := HR1.out.who hx
      obtain ⟨ad2, rfl, -, q0, q1, q2⟩ := HR2.out.who hx
      have P0 := Lib.hid p0
      have P1 := Lib.hid p1
      have P2 := Lib.hid p2
      have Q0 := Lib.hid q0
      have Q1 := Lib.hid q1
      have Q2 := Lib.hid q2
      have d3 : (k : Int) < (n : Int) := by omega
      obtain ⟨o, u, a⟩ := x
      clear p0 p1 p2 q0 q1 q2 hx
      dsimp only at P0 P1 P2 Q0 Q1 Q2
      go_wp2_with fail
      refine Kx.region_x HB (fun i => false) (by kernel_rfl) ?_
      refine anyW_take (i := 0) (v := ?v0_17) (a' := ?a0_17) (by first | exact Kx.bears_x | assumption) rfl (by kernel_rfl) (by kernel_rfl) (by kernel_rfl) (fun _ _ _ h => h) (by kernel_rfl) ?w0_17 ?y0_17 ?f0_17 ?r0_17
      case w0_17 => kernel_rfl
      case y0_17 => (intro w hC; go_simp; try with_reducible rfl)
      case f0_17 => (go_simp; try with_reducible rfl)
      refine anyW_take (i := 1) (v := ?v1_18) (a' := ?a1_18) (by first | exact Kx.bears_x | assumption) rfl (by kernel_rfl) (by kernel_rfl) (by kernel_rfl) (fun _ _ _ h => h) (by kernel_rfl) ?w1_18 ?y1_18 ?f1_18 ?r1_18
      case w1_18 => kernel_rfl
      case y1_18 => (intro w hC; go_simp; try with_reducible rfl)
      case f1_18 => (go_simp; try with_reducible rfl)
      refine anyW_take (i := 2) (v := ?v2_19) (a' := ?a2_19) (by first | exact Kx.bears_x | assumption) rfl (by kernel_rfl) (by kernel_rfl) (by kernel_rfl) (fun _ _ _ h => h) (by kernel_rfl) ?w2_19 ?y2_19 ?f2_19 ?r2_19
      case w2_19 => kernel_rfl
      case y2_19 => (intro w hC; go_simp; try with_reducible rfl)
      case f2_19 => (go_simp; try with_reducible rfl)
      refine anyW_take (i := 3) (v := ?v3_20) (a' := ?a3_20) (by first | exact Kx.bears_x | assumption) rfl (by kernel_rfl) (by kernel_rfl) (by kernel_rfl) (fun _ _ _ h => h) (by kernel_rfl) ?w3_20 ?y3_20 ?f3_20 ?r3_20
      case w3_20 => kernel_rfl
      case y3_20 => (intro w hC; go_simp; try with_reducible rfl)
      case f3_20 => (go_simp; try with_reducible rfl)
      refine anyW_take (i := 4) (v := ?v4_21) (a' := ?a4_21) (by first | exact Kx.bears_x | assumption) rfl (by kernel_rfl) (by kernel_rfl) (by kernel_rfl) (fun _ _ _ h => h) (by kernel_rfl) ?w4_21 ?y4_21 ?f4_21 ?r4_21
      case w4_21 => kernel_rfl
      case y4_21 => (intro W hW; first | (refine Eq.trans (tells_cell _ rfl (Try.isAgg3 _) (hW.old P0.out)) ?_; with_reducible rfl))
      case f4_21 => (go_simp; try with_reducible rfl)
      refine anyW_take (i := 5) (v := ?v5_22) (a' := ?a5_22) (by first | exact Kx.bears_x | assumption) rfl (by kernel_rfl) (by kernel_rfl) (by kernel_rfl) (fun _ _ _ h => h) (by kernel_rfl) ?w5_22 ?y5_22 ?f5_22 ?r5_22
      case w5_22 => kernel_rfl
      case y5_22 => (intro w hC; go_simp; try with_reducible rfl)
      case f5_22 => (go_simp; try with_reducible rfl)
      refine anyW_take (i := 6) (v := ?v6_23) (a' := ?a6_23) (by first | exact Kx.bears_x | assumption) rfl (by kernel_rfl) (by kernel_rfl) (by kernel_rfl) (fun _ _ _ h => h) (by kernel_rfl) ?w6_23 ?y6_23 ?f6_23 ?r6_23
      case w6_23 => kernel_rfl
      case y6_23 => (intro w hC; go_simp; try with_reducible rfl)
      case f6_23 => (go_simp; try with_reducible rfl)
      refine anyW_take (i := 7) (v := ?v7_24) (a' := ?a7_24) (by first | exact Kx.bears_x | assumption) rfl (by kernel_rfl) (by kernel_rfl) (by kernel_rfl) (fun _ _ _ h => h) (by kernel_rfl) ?w7_24 ?y7_24 ?f7_24 ?r7_24
      case w7_24 => kernel_rfl
      case y7_24 => (intro w hC; go_simp; try with_reducible rfl)
      case f7_24 => (go_simp; try with_reducible rfl)
      refine anyW_take (i := 8) (v := ?v8_25) (a' := ?a8_25) (by first | exact Kx.bears_x | assumption) rfl (by kernel_rfl) (by kernel_rfl) (by kernel_rfl) (fun _ _ _ h => h) (by kernel_rfl) ?w8_25 ?y8_25 ?f8_25 ?r8_25
      case w8_25 => kernel_rfl
      case y8_25 => (intro w hC; go_simp; try with_reducible rfl)
      case f8_25 => (go_simp; try with_reducible rfl)
      refine anyW_take (i := 9) (v := ?v9_26) (a' := ?a9_26) (by first | exact Kx.bears_x | assumption) rfl (by kernel_rfl) (by kernel_rfl) (by kernel_rfl) (fun _ _ _ h => h) (by kernel_rfl) ?w9_26 ?y9_26 ?f9_26 ?r9_26
      case w9_26 => kernel_rfl
      case y9_26 => (intro W hW; first | (refine Eq.trans (tells_cell _ rfl (Try.isAgg3 _) (hW.old Q0.out)) ?_; with_reducible rfl))
      case f9_26 => (go_simp; try with_reducible rfl)
      refine anyW_take (i := 10) (v := ?v10_27) (a' := ?a10_27) (by first | exact Kx.bears_x | assumption) rfl (by kernel_rfl) (by kernel_rfl) (by kernel_rfl) (fun _ _ _ h => h) (by kernel_rfl) ?w10_27 ?y10_27 ?f10_27 ?r10_27
      case w10_27 => kernel_rfl
      case y10_27 => (intro w hC; go_simp; try with_reducible rfl)
      case f10_27 => (go_simp; try with_reducible rfl)
      refine anyW_take (i := 11) (v := ?v11_28) (a' := ?a11_28) (by first | exact Kx.bears_x | assumption) rfl (by kernel_rfl) (by kernel_rfl) (by kernel_rfl) (fun _ _ _ h => h) (by kernel_rfl) ?w11_28 ?y11_28 ?f11_28 ?r11_28
      case w11_28 => kernel_rfl
      case y11_28 => (intro w hC; go_simp; try with_reducible rfl)
      case f11_28 => (go_simp; try with_reducible rfl)
      refine anyW_take (i := 12) (v := ?v12_29) (a' := ?a12_29) (by first | exact Kx.bears_x | assumption) rfl (by kernel_rfl) (by kernel_rfl) (by kernel_rfl) (fun _ _ _ h => h) (by kernel_rfl) ?w12_29 ?y12_29 ?f12_29 ?r12_29
      case w12_29 => kernel_rfl
      case y12_29 => (intro w hC; go_simp; try with_reducible rfl)
      case f12_29 => (go_simp; try with_reducible rfl)
      refine anyW_take (i := 13) (v := ?v13_30) (a' := ?a13_30) (by first | exact Kx.bears_x | assumption) rfl (by kernel_rfl) (by kernel_rfl) (by kernel_rfl) (fun _ _ _ h => h) (by kernel_rfl) ?w13_30 ?y13_30 ?f13_30 ?r13_30
      case w13_30 => kernel_rfl
      case y13_30 => (intro w hC; go_simp; try with_reducible rfl)
      case f13_30 => (go_simp; try with_reducible rfl)
      refine anyW_take (i := 14) (v := ?v14_31) (a' := ?a14_31) (by first | exact Kx.bears_x | assumption) rfl (by kernel_rfl) (by kernel_rfl) (by kernel_rfl) (fun _ _ _ h => h) (by kernel_rfl) ?w14_31 ?y14_31 ?f14_31 ?r14_31
      case w14_31 => kernel_rfl
      case y14_31 => (intro w hC; go_simp; try with_reducible rfl)
      case f14_31 => (go_simp; try with_reducible rfl)
      refine anyW_take (i := 15) (v := ?v15_32) (a' := ?a15_32) (by first | exact Kx.bears_x | assumption) rfl (by kernel_rfl) (by kernel_rfl) (by kernel_rfl) (fun _ _ _ h => h) (by kernel_rfl) ?w15_32 ?y15_32 ?f15_32 ?r15_32
      case w15_32 => kernel_rfl
      case y15_32 => (intro w hC; go_simp; try with_reducible rfl)
      case f15_32 => (go_simp; try with_reducible rfl)
      refine anyW_take (i := 16) (v := ?v16_33) (a' := ?a16_33) (by first | exact Kx.bears_x | assumption) rfl (by kernel_rfl) (by kernel_rfl) (by kernel_rfl) (fun _ _ _ h => h) (by kernel_rfl) ?w16_33 ?y16_33 ?f16_33 ?r16_33
      case w16_33 => kernel_rfl
      case y16_33 => (intro W hW; first | (refine Eq.trans (tells_cell _ rfl (Try.isAgg23 _) (hW.old P1.out)) ?_; with_reducible rfl))
      case f16_33 => (go_simp; try with_reducible rfl)
      refine anyW_take (i := 17) (v := ?v17_34) (a' := ?a17_34) (by first | exact Kx.bears_x | assumption) rfl (by kernel_rfl) (by kernel_rfl) (by kernel_rfl) (fun _ _ _ h => h) (by kernel_rfl) ?w17_34 ?y17_34 ?f17_34 ?r17_34
      case w17_34 => kernel_rfl
      case y17_34 => (intro w hC; go_simp; try with_reducible rfl)
      case f17_34 => (go_simp; try with_reducible rfl)
      refine anyW_take (i := 18) (v := ?v18_35) (a' := ?a18_35) (by first | exact Kx.bears_x | assumption) rfl (by kernel_rfl) (by kernel_rfl) (by kernel_rfl) (fun _ _ _ h => h) (by kernel_rfl) ?w18_35 ?y18_35 ?f18_35 ?r18_35
      case w18_35 => kernel_rfl
      case y18_35 => (intro w hC; go_simp; try with_reducible rfl)
      case f18_35 => (go_simp; try with_reducible rfl)
      refine anyW_take (i := 19) (v := ?v19_36) (a' := ?a19_36) (by first | exact Kx.bears_x | assumption) rfl (by kernel_rfl) (by kernel_rfl) (by kernel_rfl) (fun _ _ _ h => h) (by kernel_rfl) ?w19_36 ?y19_36 ?f19_36 ?r19_36
      case w19_36 => kernel_rfl
      case y19_36 => (intro w hC; go_simp; try with_reducible rfl)
      case f19_36 => (go_simp; try with_reducible rfl)
      refine anyW_take (i := 20) (v := ?v20_37) (a' := ?a20_37) (by first | exact Kx.bears_x | assumption) rfl (by kernel_rfl) (by kernel_rfl) (by kernel_rfl) (fun _ _ _ h => h) (by kernel_rfl) ?w20_37 ?y20_37 ?f20_37 ?r20_37
      case w20_37 => kernel_rfl
      case y20_37 => (intro w hC; go_simp; try with_reducible rfl)
      case f20_37 => (go_simp; try with_reducible rfl)
      refine anyW_take (i := 21) (v := ?v21_38) (a' := ?a21_38) (by first | exact Kx.bears_x | assumption) rfl (by kernel_rfl) (by kernel_rfl) (by kernel_rfl) (fun _ _ _ h => h) (by kernel_rfl) ?w21_38 ?y21_38 ?f21_38 ?r21_38
      case w21_38 => kernel_rfl
      case y21_38 => (intro W hW; first | (refine Eq.trans (tells_cell _ rfl (Try.isAgg23 _) (hW.old Q1.out)) ?_; with_reducible rfl))
      case f21_38 => (go_simp; try with_reducible rfl)
      refine anyW_take (i := 22) (v := ?v22_39) (a' := ?a22_39) (by first | exact Kx.bears_x | assumption) rfl (by kernel_rfl) (by kernel_rfl) (by kernel_rfl) (fun _ _ _ h => h) (by kernel_rfl) ?w22_39 ?y22_39 ?f22_39 ?r22_39
      case w22_39 => kernel_rfl
      case y22_39 => (intro w hC; go_simp; try with_reducible rfl)
      case f22_39 => (go_simp; try with_reducible rfl)
      refine anyW_take (i := 23) (v := ?v23_40) (a' := ?a23_40) (by first | exact Kx.bears_x | assumption) rfl (by kernel_rfl) (by kernel_rfl) (by kernel_rfl) (fun _ _ _ h => h) (by kernel_rfl) ?w23_40 ?y23_40 ?f23_40 ?r23_40
      case w23_40 => kernel_rfl
      case y23_40 => (intro w hC; go_simp; try with_reducible rfl)
      case f23_40 => (go_simp; try with_reducible rfl)
      refine anyW_take (i := 24) (v := ?v24_41) (a' := ?a24_41) (by first | exact Kx.bears_x | assumption) rfl (by kernel_rfl) (by kernel_rfl) (by kernel_rfl) (fun _ _ _ h => h) (by kernel_rfl) ?w24_41 ?y24_41 ?f24_41 ?r24_41
      case w24_41 => kernel_rfl
      case y24_41 => (intro w hC; go_simp; try with_reducible rfl)
      case f24_41 => (go_simp; try with_reducible rfl)
      refine anyW_take (i := 25) (v := ?v25_42) (a' := ?a25_42) (by first | exact Kx.bears_x | assumption) rfl (by kernel_rfl) (by kernel_rfl) (by kernel_rfl) (fun _ _ _ h => h) (by kernel_rfl) ?w25_42 ?y25_42 ?f25_42 ?r25_42
      case w25_42 => kernel_rfl
      case y25_42 => (intro w hC; go_simp; try with_reducible rfl)
      case f25_42 => (go_simp; try with_reducible rfl)
      refine anyW_take (i := 26) (v := ?v26_43) (a' := ?a26_43) (by first | exact Kx.bears_x | assumption) rfl (by kernel_rfl) (by kernel_rfl) (by kernel_rfl) (fun _ _ _ h => h) (by kernel_rfl) ?w26_43 ?y26_43 ?f26_43 ?r26_43
      case w26_43 => kernel_rfl
      case y26_43 => (intro w hC; go_simp; try with_reducible rfl)
      case f26_43 => (go_simp; try with_reducible rfl)
      refine anyW_take (i := 27) (v := ?v27_44) (a' := ?a27_44) (by first | exact Kx.bears_x | assumption) rfl (by kernel_rfl) (by kernel_rfl) (by kernel_rfl) (fun _ _ _ h => h) (by kernel_rfl) ?w27_44 ?y27_44 ?f27_44 ?r27_44
      case w27_44 => kernel_rfl
      case y27_44 => (intro w hC; go_simp; try with_reducible rfl)
      case f27_44 => (go_simp; try with_reducible rfl)
      refine anyW_take (i := 28) (v := ?v28_45) (a' := ?a28_45) (by first | exact Kx.bears_x | assumption) rfl (by kernel_rfl) (by kernel_rfl) (by kernel_rfl) (fun _ _ _ h => h) (by kernel_rfl) ?w28_45 ?y28_45 ?f28_45 ?r28_45
      case w28_45 => kernel_rfl
      case y28_45 => (intro w hC; go_simp; try with_reducible rfl)
      case f28_45 => (go_simp; try with_reducible rfl)
      refine anyW_take (i := 29) (v := ?v29_46) (a' := ?a29_46) (by first | exact Kx.bears_x | assumption) rfl (by kernel_rfl) (by kernel_rfl) (by kernel_rfl) (fun _ _ _ h => h) (by kernel_rfl) ?w29_46 ?y29_46 ?f29_46 ?r29_46
      case w29_46 => kernel_rfl
      case y29_46 => (intro W hW; first | (refine Eq.trans (tells_cell _ rfl (Try.isAgg2 _) (hW.old P2.out)) ?_; with_reducible rfl))
      case f29_46 => (go_simp; try with_reducible rfl)
      refine anyW_take (i := 30) (v := ?v30_47) (a' := ?a30_47) (by first | exact Kx.bears_x | assumption) rfl (by kernel_rfl) (by kernel_rfl) (by kernel_rfl) (fun _ _ _ h => h) (by kernel_rfl) ?w30_47 ?y30_47 ?f30_47 ?r30_47
      case w30_47 => kernel_rfl
      case y30_47 => (intro w hC; go_simp; try with_reducible rfl)
      case f30_47 => (go_simp; try with_reducible rfl)
      refine anyW_take (i := 31) (v := ?v31_48) (a' := ?a31_48) (by first | exact Kx.bears_x | assumption) rfl (by kernel_rfl) (by kernel_rfl) (by kernel_rfl) (fun _ _ _ h => h) (by kernel_rfl) ?w31_48 ?y31_48 ?f31_48 ?r31_48
      case w31_48 => kernel_rfl
      case y31_48 => (intro w hC; go_simp; try with_reducible rfl)
      case f31_48 => (go_simp; try with_reducible rfl)
      refine anyW_take (i := 32) (v := ?v32_49) (a' := ?a32_49) (by first | exact Kx.bears_x | assumption) rfl (by kernel_rfl) (by kernel_rfl) (by kernel_rfl) (fun _ _ _ h => h) (by kernel_rfl) ?w32_49 ?y32_49 ?f32_49 ?r32_49
      case w32_49 => kernel_rfl
      case y32_49 => (intro w hC; go_simp; try with_reducible rfl)
      case f32_49 => (go_simp; try with_reducible rfl)
      refine anyW_take (i := 33) (v := ?v33_50) (a' := ?a33_50) (by first | exact Kx.bears_x | assumption) rfl (by kernel_rfl) (by kernel_rfl) (by kernel_rfl) (fun _ _ _ h => h) (by kernel_rfl) ?w33_50 ?y33_50 ?f33_50 ?r33_50
      case w33_50 => kernel_rfl
      case y33_50 => (intro w hC; go_simp; try with_reducible rfl)
      case f33_50 => (go_simp; try with_reducible rfl)
      refine anyW_take (i := 34) (v := ?v34_51) (a' := ?a34_51) (by first | exact Kx.bears_x | assumption) rfl (by kernel_rfl) (by kernel_rfl) (by kernel_rfl) (fun _ _ _ h => h) (by kernel_rfl) ?w34_51 ?y34_51 ?f34_51 ?r34_51
      case w34_51 => kernel_rfl
      case y34_51 => (intro W hW; first | (refine Eq.trans (tells_cell _ rfl (Try.isAgg2 _) (hW.old Q2.out)) ?_; with_reducible rfl))
      case f34_51 => (go_simp; try with_reducible rfl)
      refine anyW_take (i := 35) (v := ?v35_52) (a' := ?a35_52) (by first | exact Kx.bears_x | assumption) rfl (by kernel_rfl) (by kernel_rfl) (by kernel_rfl) (fun _ _ _ h => h) (by kernel_rfl) ?w35_52 ?y35_52 ?f35_52 ?r35_52
      case w35_52 => kernel_rfl
      case y35_52 => (intro w hC; go_simp; try with_reducible rfl)
      case f35_52 => (go_simp; try with_reducible rfl)
      refine anyW_take (i := 36) (v := ?v36_53) (a' := ?a36_53) (by first | exact Kx.bears_x | assumption) rfl (by kernel_rfl) (by kernel_rfl) (by kernel_rfl) (fun _ _ _ h => h) (by kernel_rfl) ?w36_53 ?y36_53 ?f36_53 ?r36_53
      case w36_53 => kernel_rfl
      case y36_53 => (intro w hC; go_simp; try with_reducible rfl)
      case f36_53 => (go_simp; try with_reducible rfl)
      refine anyW_done (by kernel_rfl) ?_
      clear HB
      intro w_ HB_
      have HB := Lib.hid HB_
      clear HB_
      go_wp2_with fail
      go_roundg (gk - 1)
      case measure => omega
      case rel => exact ⟨k + 1, by omega, by go_num, HB⟩
    · obtain rfl : k = n := by omega
      have d0 : decide ((k : Int) < (k : Int)) = false := by simp
      go_wp2_with fail
      go_ret
      exact ⟨rfl, HB.out.below⟩
end Go.Proofs.Ytpchkhphpcopkaa
