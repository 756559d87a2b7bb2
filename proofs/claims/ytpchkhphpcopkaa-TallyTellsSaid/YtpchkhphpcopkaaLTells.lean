/- TallyTells, walked. -/
import Derived.Test.YtpchkhphpcopkaaTj
import Derived.Test.YtpchkhphpcopkaaTk
import Derived.Test.YtpchkhphpcopkaaTl
import Derived.Test.YtpchkhphpcopkaaTo
namespace Go.Proofs.Ytpchkhphpcopkaa
open Go.RowKit Go.Shelf Km Kx

/-- a call that makes a row and hands it back, when it alone is ready -/
theorem anyW_callRow_x {P : Program} {ops : Array Oper} {md : Region.Mode} {Q : Exit → Act → World → Prop} {D : Nat → Bool} {w0 : World} {l : List (Nat × List Value)} {r : List Rw} {i : Nat} {oi : Oper} {listed : Array Bool} {a : Act} {n : Nat} {f : FuncId} {args : Array Value} (m k : Nat) (e : TypeId) (xs : List Value)
    (hi : ops[i]? = some oi) (hr : Region.ready md ops listed = [i]) (hn : Region.wanted oi (yielded ops a.tmps) = true) (d : Nat) (hdst : oi.dst = some d) (hE : ∀ w, Bxs w0 w l r → (execOp a.eval oi).run P w = .ok (.enter f args) w)
    (hc : ∀ w, Bxs w0 w l r → Calls P f args w fun en w' => ∃ A' c', en = .returned (.slice A' m c') ∧ Below w.heap.size w w' ∧ w'.ownsRow w.heap.size e k (.slice A' m c') m xs)
    (h : ∀ A' c', anyW P md ops Q (fun w' => Bxs w0 w' l (⟨A', c', e, k, m, xs⟩ :: r)) D n (listed.setIfInBounds i true) (At (a.put (some d) (.slice A' m c')) (fun w' => Bxs w0 w' l (⟨A', c', e, k, m, xs⟩ :: r)))) :
    anyW P md ops Q (fun w' => Bxs w0 w' l r) D (n + 1) listed (At a (fun w' => Bxs w0 w' l r)) :=
  anyW_one (fun a' w' => ∃ p : Option Addr × Nat, At (a.put (some d) (.slice p.1 m p.2)) (fun w' => Bxs w0 w' l (⟨p.1, p.2, e, k, m, xs⟩ :: r)) a' w') (fun _ _ _ ⟨p, q, q2⟩ hb => ⟨p, q, q2.call hb⟩) hi hr hn (.inr fun _ _ ⟨_, _, q⟩ => q.rowTail)
    (fun w hw => by
      unfold Oper.wp
      rw [hE w hw]
      simp only [Oper.upon]
      refine (hc w hw).mono ?_
      rintro en w'' ⟨A', c', rfl, hb, ho⟩
      exact ⟨(A', c'), by rw [hdst], hw.callRow hb ho⟩)
    (anyW_union ((none, 0) : Option Addr × Nat) fun p => anyW_wider (fun _ q => q.rowTail) (h p.1 p.2))

set_option maxRecDepth 100000 in
set_option maxHeartbeats 4000000 in
theorem tells_walk (a0 : Option Addr) (len0 cap0 : Nat) (l : List Tm.Vt) (v : Tm.Vt) (a2 a3 a4 : Int) (w : World) (w0 : VtsAt w a0 len0 cap0 l) (_w1 : Wv v) (w2 : (Lit.int .i64 a2).wf = true) (_w3 : (Lit.int .i64 a3).wf = true) (_w4 : (Lit.int .i64 a4).wf = true) :
    Calls Try.prog 3 #[.slice a0 len0 cap0, .agg (vv v).toArray, .int .i64 a2, .int .i64 a3, .int .i64 a4] w fun e w' => e = .returned (.bool true) ∧ Below w.heap.size w w' := by
  have HB := Lib.hid (Bxs.start w)
  obtain ⟨hn, -, -, hwl, hr⟩ := w0
  have HN := Lib.hid hn
  have HR := Lib.hid hr
  have HW := Lib.hid hwl
  have HO : Hid (in64 a2) := Lib.hid (wf_i64 w2)
  clear hn hr hwl w2
  by_cases hg : 300 < len0
  · have d1 : decide ((300 : Int) < (len0 : Int)) = true := by simp; omega
    go_enter Try.func3, Try.ntmps3
    go_wp2_with (first | (go_at_call 9; refine Calls.mono (head_any _) ?_; rintro e w_ ⟨rfl, hb_⟩; replace HB := Lib.hid (HB.out.call hb_); clear hb_) | (first | ((with_reducible refine Kx.absorb HB ?_); clear HB; intro w_ HB) | ((with_reducible refine Kx.box_gate (d := some 6) ?_); first | (refine Kx.wpList_boxa_x HB rfl _ _ rfl _ rfl ?_; clear HB; intro b6 w_ HB; refine Kx.framed ?_ (by simp only [Act.put, List.setIfInBounds_toArray, List.set_cons_succ, List.set_cons_zero] <;> rfl)) | (refine Kx.wpList_boxt_x HB rfl _ _ rfl _ rfl rfl ?_; clear HB; intro b6 w_ HB; refine Kx.framed ?_ (by simp only [Act.put, List.setIfInBounds_toArray, List.set_cons_succ, List.set_cons_zero] <;> rfl)) | (refine Kx.wpList_box1_x HB rfl _ _ rfl _ rfl rfl ?_; clear HB; intro b6 w_ HB; refine Kx.framed ?_ (by simp only [Act.put, List.setIfInBounds_toArray, List.set_cons_succ, List.set_cons_zero] <;> rfl))) | ((with_reducible refine Kx.alloc_gate (d := some 6) ?_); first | (refine Kx.wpList_alloca_x HB rfl _ rfl _ (Try.zeroValue25 _) ?_; clear HB; intro b6 w_ HB; refine Kx.framed ?_ (by simp only [Act.put, List.setIfInBounds_toArray, List.set_cons_succ, List.set_cons_zero] <;> rfl)) | (refine Kx.wpList_alloc1_x HB rfl _ rfl _ (Try.zeroValue3 _) rfl ?_; clear HB; intro b6 w_ HB; refine Kx.framed ?_ (by simp only [Act.put, List.setIfInBounds_toArray, List.set_cons_succ, List.set_cons_zero] <;> rfl))) | ((with_reducible refine Kx.box_gate ?_); first | (refine Kx.wpList_boxa_x HB rfl _ _ rfl _ rfl ?_; clear HB; intro b_ w_ HB; refine Kx.framed ?_ (by simp only [Act.put, List.setIfInBounds_toArray, List.set_cons_succ, List.set_cons_zero] <;> rfl)) | (refine Kx.wpList_boxt_x HB rfl _ _ rfl _ rfl rfl ?_; clear HB; intro b_ w_ HB; refine Kx.framed ?_ (by simp only [Act.put, List.setIfInBounds_toArray, List.set_cons_succ, List.set_cons_zero] <;> rfl)) | (refine Kx.wpList_box1_x HB rfl _ _ rfl _ rfl rfl ?_; clear HB; intro b_ w_ HB; refine Kx.framed ?_ (by simp only [Act.put, List.setIfInBounds_toArray, List.set_cons_succ, List.set_cons_zero] <;> rfl))) | ((with_reducible refine Kx.alloc_gate ?_); first | (refine Kx.wpList_alloca_x HB rfl _ rfl _ (Try.zeroValue25 _) ?_; clear HB; intro b_ w_ HB; refine Kx.framed ?_ (by simp only [Act.put, List.setIfInBounds_toArray, List.set_cons_succ, List.set_cons_zero] <;> rfl)) | (refine Kx.wpList_alloc1_x HB rfl _ rfl _ (Try.zeroValue3 _) rfl ?_; clear HB; intro b_ w_ HB; refine Kx.framed ?_ (by simp only [Act.put, List.setIfInBounds_toArray, List.set_cons_succ, List.set_cons_zero] <;> rfl))) | ((with_reducible refine Kx.loads_gate ?_); first | (refine Kx.wpList_load1_x HB rfl _ _ rfl _ rfl _ (Try.isAgg3 _) _ rfl (Kx.framed ?_ (by simp only [Act.put, List.setIfInBounds_toArray, List.set_cons_succ, List.set_cons_zero] <;> rfl))) | (refine Kx.wpList_load_x HB rfl _ _ rfl _ rfl _ _ (Try.isAgg25 _) (Try.sizeOf25 _) _ (by first | exact Kx.whole (by rfl) | (simp <;> rfl)) (by rfl) (Kx.framed ?_ (by simp only [Act.put, List.setIfInBounds_toArray, List.set_cons_succ, List.set_cons_zero] <;> rfl))) | (refine Kx.wpList_old_x HB rfl _ _ rfl _ rfl (Try.isAgg3 _) _ HC.out (Kx.framed ?_ (by simp only [Act.put, List.setIfInBounds_toArray, List.set_cons_succ, List.set_cons_zero] <;> rfl)))) | ((with_reducible refine Kx.loadg_gate ?_); first | (refine Kx.wpList_loadg_x HB _ _ rfl _ rfl _ (Try.isAgg3 _) _ rfl rfl (Kx.framed ?_ (by simp only [Act.put, List.setIfInBounds_toArray, List.set_cons_succ, List.set_cons_zero] <;> rfl))) | (refine Kx.wpList_loadga_x HB _ _ rfl _ rfl _ _ (Try.isAgg25 _) (Try.sizeOf25 _) _ (by first | exact Kx.whole (by rfl) | (simp <;> rfl)) (by rfl) rfl (Kx.framed ?_ (by simp only [Act.put, List.setIfInBounds_toArray, List.set_cons_succ, List.set_cons_zero] <;> rfl))) | (refine Kx.wpList_oldg_x HB _ _ rfl _ rfl (Try.isAgg3 _) _ HC.out rfl (Kx.framed ?_ (by simp only [Act.put, List.setIfInBounds_toArray, List.set_cons_succ, List.set_cons_zero] <;> rfl)))) | ((with_reducible refine Kx.store_gate ?_); first | (refine Kx.wpList_storewa_x HB rfl rfl _ _ _ rfl _ rfl _ rfl _ (by rfl) (by simp <;> rfl) (by rfl) ?_; clear HB; intro w_ HB) | (refine Kx.wpList_storea_x HB rfl rfl _ _ _ rfl _ rfl _ rfl _ _ (by simp [Kx.splice] <;> rfl) (by simp) (by simp <;> rfl) (by rfl) ?_; clear HB; intro w_ HB) | (refine Kx.wpList_storec_x HB rfl rfl _ _ _ rfl _ rfl rfl _ _ (by simp <;> rfl) (by simp) (by simp <;> rfl) ?_; clear HB; intro w_ HB) | (refine Kx.wpList_storet_x HB rfl rfl _ _ _ rfl _ rfl _ rfl rfl _ _ (by simp <;> rfl) (by simp) (by simp <;> rfl) ?_; clear HB; intro w_ HB) | (refine Kx.wpList_store1_x HB rfl rfl _ _ _ rfl _ rfl _ rfl rfl _ _ (by simp <;> rfl) (by simp) (by simp <;> rfl) ?_; clear HB; intro w_ HB))))
    go_ret
    exact ⟨rfl, HB.out.below⟩
  · have d1 : decide ((300 : Int) < (len0 : Int)) = false := by simp; omega
    go_enter Try.func3, Try.ntmps3
    go_wp2_with (first | (go_at_call 9; refine Calls.mono (head_any _) ?_; rintro e w_ ⟨rfl, hb_⟩; replace HB := Lib.hid (HB.out.call hb_); clear hb_) | (first | ((with_reducible refine Kx.absorb HB ?_); clear HB; intro w_ HB) | ((with_reducible refine Kx.box_gate (d := some 6) ?_); first | (refine Kx.wpList_boxa_x HB rfl _ _ rfl _ rfl ?_; clear HB; intro b6 w_ HB; refine Kx.framed ?_ (by simp only [Act.put, List.setIfInBounds_toArray, List.set_cons_succ, List.set_cons_zero] <;> rfl)) | (refine Kx.wpList_boxt_x HB rfl _ _ rfl _ rfl rfl ?_; clear HB; intro b6 w_ HB; refine Kx.framed ?_ (by simp only [Act.put, List.setIfInBounds_toArray, List.set_cons_succ, List.set_cons_zero] <;> rfl)) | (refine Kx.wpList_box1_x HB rfl _ _ rfl _ rfl rfl ?_; clear HB; intro b6 w_ HB; refine Kx.framed ?_ (by simp only [Act.put, List.setIfInBounds_toArray, List.set_cons_succ, List.set_cons_zero] <;> rfl))) | ((with_reducible refine Kx.alloc_gate (d := some 6) ?_); first | (refine Kx.wpList_alloca_x HB rfl _ rfl _ (Try.zeroValue25 _) ?_; clear HB; intro b6 w_ HB; refine Kx.framed ?_ (by simp only [Act.put, List.setIfInBounds_toArray, List.set_cons_succ, List.set_cons_zero] <;> rfl)) | (refine Kx.wpList_alloc1_x HB rfl _ rfl _ (Try.zeroValue3 _) rfl ?_; clear HB; intro b6 w_ HB; refine Kx.framed ?_ (by simp only [Act.put, List.setIfInBounds_toArray, List.set_cons_succ, List.set_cons_zero] <;> rfl))) | ((with_reducible refine Kx.box_gate ?_); first | (refine Kx.wpList_boxa_x HB rfl _ _ rfl _ rfl ?_; clear HB; intro b_ w_ HB; refine Kx.framed ?_ (by simp only [Act.put, List.setIfInBounds_toArray, List.set_cons_succ, List.set_cons_zero] <;> rfl)) | (refine Kx.wpList_boxt_x HB rfl _ _ rfl _ rfl rfl ?_; clear HB; intro b_ w_ HB; refine Kx.framed ?_ (by simp only [Act.put, List.setIfInBounds_toArray, List.set_cons_succ, List.set_cons_zero] <;> rfl)) | (refine Kx.wpList_box1_x HB rfl _ _ rfl _ rfl rfl ?_; clear HB; intro b_ w_ HB; refine Kx.framed ?_ (by simp only [Act.put, List.setIfInBounds_toArray, List.set_cons_succ, List.set_cons_zero] <;> rfl))) | ((with_reducible refine Kx.alloc_gate ?_); first | (refine Kx.wpList_alloca_x HB rfl _ rfl _ (Try.zeroValue25 _) ?_; clear HB; intro b_ w_ HB; refine Kx.framed ?_ (by simp only [Act.put, List.setIfInBounds_toArray, List.set_cons_succ, List.set_cons_zero] <;> rfl)) | (refine Kx.wpList_alloc1_x HB rfl _ rfl _ (Try.zeroValue3 _) rfl ?_; clear HB; intro b_ w_ HB; refine Kx.framed ?_ (by simp only [Act.put, List.setIfInBounds_toArray, List.set_cons_succ, List.set_cons_zero] <;> rfl))) | ((with_reducible refine Kx.loads_gate ?_); first | (refine Kx.wpList_load1_x HB rfl _ _ rfl _ rfl _ (Try.isAgg3 _) _ rfl (Kx.framed ?_ (by simp only [Act.put, List.setIfInBounds_toArray, List.set_cons_succ, List.set_cons_zero] <;> rfl))) | (refine Kx.wpList_load_x HB rfl _ _ rfl _ rfl _ _ (Try.isAgg25 _) (Try.sizeOf25 _) _ (by first | exact Kx.whole (by rfl) | (simp <;> rfl)) (by rfl) (Kx.framed ?_ (by simp only [Act.put, List.setIfInBounds_toArray, List.set_cons_succ, List.set_cons_zero] <;> rfl))) | (refine Kx.wpList_old_x HB rfl _ _ rfl _ rfl (Try.isAgg3 _) _ HC.out (Kx.framed ?_ (by simp only [Act.put, List.setIfInBounds_toArray, List.set_cons_succ, List.set_cons_zero] <;> rfl)))) | ((with_reducible refine Kx.loadg_gate ?_); first | (refine Kx.wpList_loadg_x HB _ _ rfl _ rfl _ (Try.isAgg3 _) _ rfl rfl (Kx.framed ?_ (by simp only [Act.put, List.setIfInBounds_toArray, List.set_cons_succ, List.set_cons_zero] <;> rfl))) | (refine Kx.wpList_loadga_x HB _ _ rfl _ rfl _ _ (Try.isAgg25 _) (Try.sizeOf25 _) _ (by first | exact Kx.whole (by rfl) | (simp <;> rfl)) (by rfl) rfl (Kx.framed ?_ (by simp only [Act.put, List.setIfInBounds_toArray, List.set_cons_succ, List.set_cons_zero] <;> rfl))) | (refine Kx.wpList_oldg_x HB _ _ rfl _ rfl (Try.isAgg3 _) _ HC.out rfl (Kx.framed ?_ (by simp only [Act.put, List.setIfInBounds_toArray, List.set_cons_succ, List.set_cons_zero] <;> rfl)))) | ((with_reducible refine Kx.store_gate ?_); first | (refine Kx.wpList_storewa_x HB rfl rfl _ _ _ rfl _ rfl _ rfl _ (by rfl) (by simp <;> rfl) (by rfl) ?_; clear HB; intro w_ HB) | (refine Kx.wpList_storea_x HB rfl rfl _ _ _ rfl _ rfl _ rfl _ _ (by simp [Kx.splice] <;> rfl) (by simp) (by simp <;> rfl) (by rfl) ?_; clear HB; intro w_ HB) | (refine Kx.wpList_storec_x HB rfl rfl _ _ _ rfl _ rfl rfl _ _ (by simp <;> rfl) (by simp) (by simp <;> rfl) ?_; clear HB; intro w_ HB) | (refine Kx.wpList_storet_x HB rfl rfl _ _ _ rfl _ rfl _ rfl rfl _ _ (by simp <;> rfl) (by simp) (by simp <;> rfl) ?_; clear HB; intro w_ HB) | (refine Kx.wpList_store1_x HB rfl rfl _ _ _ rfl _ rfl _ rfl rfl _ _ (by simp <;> rfl) (by simp) (by simp <;> rfl) ?_; clear HB; intro w_ HB))))
    refine Kx.region_x HB (fun i => false) (by kernel_rfl) ?_
    refine anyW_take (i := 0) (v := ?v0_1) (a' := ?a0_1) (by first | exact Kx.bears_x | assumption) rfl (by kernel_rfl) (by kernel_rfl) (by kernel_rfl) (fun _ _ _ h => h) (by kernel_rfl) ?w0_1 ?y0_1 ?f0_1 ?r0_1
    case w0_1 => kernel_rfl
    case y0_1 => (intro w hC; go_simp; try with_reducible rfl)
    case f0_1 => (go_simp; try with_reducible rfl)
    refine anyW_take (i := 1) (v := ?v1_2) (a' := ?a1_2) (by first | exact Kx.bears_x | assumption) rfl (by kernel_rfl) (by kernel_rfl) (by kernel_rfl) (fun _ _ _ h => h) (by kernel_rfl) ?w1_2 ?y1_2 ?f1_2 ?r1_2
    case w1_2 => kernel_rfl
    case y1_2 => (intro w hC; go_simp; try with_reducible rfl)
    case f1_2 => (go_simp; try with_reducible rfl)
    refine anyW_take (i := 2) (v := ?v2_3) (a' := ?a2_3) (by first | exact Kx.bears_x | assumption) rfl (by kernel_rfl) (by kernel_rfl) (by kernel_rfl) (fun _ _ _ h => h) (by kernel_rfl) ?w2_3 ?y2_3 ?f2_3 ?r2_3
    case w2_3 => kernel_rfl
    case y2_3 => (intro w hC; go_simp; try with_reducible rfl)
    case f2_3 => (go_simp; try with_reducible rfl)
    refine anyW_take (i := 3) (v := ?v3_4) (a' := ?a3_4) (by first | exact Kx.bears_x | assumption) rfl (by kernel_rfl) (by kernel_rfl) (by kernel_rfl) (fun _ _ _ h => h) (by kernel_rfl) ?w3_4 ?y3_4 ?f3_4 ?r3_4
    case w3_4 => kernel_rfl
    case y3_4 => (intro W hW; first | (refine Eq.trans (Kx.tells_load1_x hW _ _ rfl _ inferInstance (Try.isAgg3 _) rfl) ?_; with_reducible rfl) | (refine Eq.trans (Kx.tells_old_x hW _ rfl (Try.isAgg3 _) HC.out) ?_; with_reducible rfl) | (refine Eq.trans (Kx.tells_load_x hW _ _ rfl _ inferInstance _ (Try.isAgg25 _) (Try.sizeOf25 _) _ (by first | exact Kx.whole (by rfl) | (simp <;> rfl)) (by rfl) rfl) ?_; with_reducible rfl))
    case f3_4 => (go_simp; try with_reducible rfl)
    refine anyW_take (i := 5) (v := ?v5_5) (a' := ?a5_5) (by first | exact Kx.bears_x | assumption) rfl (by kernel_rfl) (by kernel_rfl) (by kernel_rfl) (fun _ _ _ h => h) (by kernel_rfl) ?w5_5 ?y5_5 ?f5_5 ?r5_5
    case w5_5 => kernel_rfl
    case y5_5 => (intro w hC; go_simp; try with_reducible rfl)
    case f5_5 => (go_simp; try with_reducible rfl)
    refine anyW_take (i := 6) (v := ?v6_6) (a' := ?a6_6) (by first | exact Kx.bears_x | assumption) rfl (by kernel_rfl) (by kernel_rfl) (by kernel_rfl) (fun _ _ _ h => h) (by kernel_rfl) ?w6_6 ?y6_6 ?f6_6 ?r6_6
    case w6_6 => kernel_rfl
    case y6_6 => (intro W hW; first | (refine Eq.trans (Kx.tells_load1_x hW _ _ rfl _ inferInstance (Try.isAgg3 _) rfl) ?_; with_reducible rfl) | (refine Eq.trans (Kx.tells_old_x hW _ rfl (Try.isAgg3 _) HC.out) ?_; with_reducible rfl) | (refine Eq.trans (Kx.tells_load_x hW _ _ rfl _ inferInstance _ (Try.isAgg25 _) (Try.sizeOf25 _) _ (by first | exact Kx.whole (by rfl) | (simp <;> rfl)) (by rfl) rfl) ?_; with_reducible rfl))
    case f6_6 => (go_simp; try with_reducible rfl)
    refine anyW_callRow_x (i := 4) (f := ?g4) (args := ?s4) (Tm.put l v).length 3 25 (vvs (Tm.put l v)) rfl (by kernel_rfl) (by kernel_rfl) 21 rfl ?y4 ?c4 ?r4
    case y4 => (intro W hW; go_simp; first | (refine ⟨?_, ?_⟩ <;> with_reducible rfl) | with_reducible rfl)
    case c4 => (intro W hW; exact Put_any a0 len0 cap0 _ l v W (HR.out.below hW.below) hW.size HN.out (by omega))
    case r4 =>
    intro A4 c4
    refine Kx.framedW (by simp only [Act.put, List.setIfInBounds_toArray, List.set_cons_succ, List.set_cons_zero] <;> rfl) ?_
    refine anyW_callRow_x (i := 7) (f := ?g7) (args := ?s7) (Tm.put l v).length 3 25 (vvs (Tm.put l v)) rfl (by kernel_rfl) (by kernel_rfl) 24 rfl ?y7 ?c7 ?r7
    case y7 => (intro W hW; go_simp; first | (refine ⟨?_, ?_⟩ <;> with_reducible rfl) | with_reducible rfl)
    case c7 => (intro W hW; exact RPut_any a0 len0 cap0 _ l v W (HR.out.below hW.below) hW.size HN.out (by omega))
    case r7 =>
    intro A7 c7
    refine Kx.framedW (by simp only [Act.put, List.setIfInBounds_toArray, List.set_cons_succ, List.set_cons_zero] <;> rfl) ?_
    refine anyW_call (i := 8) (v := ?v8_7) (f := ?g8_7) (args := ?s8_7) (a' := ?a8_7) (by first | exact Kx.bears_x | assumption) rfl (by kernel_rfl) (by kernel_rfl) (by kernel_rfl) (fun _ _ _ h => h) (by kernel_rfl) ?c8_7 ?w8_7 ?y8_7 ?f8_7 ?r8_7
    case w8_7 => kernel_rfl
    case y8_7 => (intro W hW; go_simp; first | (refine ⟨?_, ?_⟩ <;> with_reducible rfl) | with_reducible rfl)
    case c8_7 => (intro W hW; refine Calls.mono (Same_any A4 A7 (Tm.put l v).length c4 c7 _ (Tm.put l v) W (hW.rowRd (A := A4)) (hW.rowRd (A := A7)) rfl (by have h1 := (Tm.put_len_le l v).2.1; have h2 := HN.out; omega)) ?_; rintro e w_ ⟨rfl, hb_⟩; refine ⟨?_, by first | exact hb_ | exact hb_ ▸ Below.refl _ _⟩; with_reducible rfl)
    case f8_7 => (go_simp; try with_reducible rfl)
    refine anyW_take (i := 9) (v := ?v9_8) (a' := ?a9_8) (by first | exact Kx.bears_x | assumption) rfl (by kernel_rfl) (by kernel_rfl) (by kernel_rfl) (fun _ _ _ h => h) (by kernel_rfl) ?w9_8 ?y9_8 ?f9_8 ?r9_8
    case w9_8 => kernel_rfl
    case y9_8 => (intro w hC; go_simp; try with_reducible rfl)
    case f9_8 => (go_simp; try with_reducible rfl)
    refine anyW_take (i := 10) (v := ?v10_9) (a' := ?a10_9) (by first | exact Kx.bears_x | assumption) rfl (by kernel_rfl) (by kernel_rfl) (by kernel_rfl) (fun _ _ _ h => h) (by kernel_rfl) ?w10_9 ?y10_9 ?f10_9 ?r10_9
    case w10_9 => kernel_rfl
    case y10_9 => (intro w hC; go_simp; try with_reducible rfl)
    case f10_9 => (go_simp; try with_reducible rfl)
    refine anyW_take (i := 11) (v := ?v11_10) (a' := ?a11_10) (by first | exact Kx.bears_x | assumption) rfl (by kernel_rfl) (by kernel_rfl) (by kernel_rfl) (fun _ _ _ h => h) (by kernel_rfl) ?w11_10 ?y11_10 ?f11_10 ?r11_10
    case w11_10 => kernel_rfl
    case y11_10 => (intro w hC; go_simp; try with_reducible rfl)
    case f11_10 => (go_simp; try with_reducible rfl)
    refine anyW_take (i := 12) (v := ?v12_11) (a' := ?a12_11) (by first | exact Kx.bears_x | assumption) rfl (by kernel_rfl) (by kernel_rfl) (by kernel_rfl) (fun _ _ _ h => h) (by kernel_rfl) ?w12_11 ?y12_11 ?f12_11 ?r12_11
    case w12_11 => kernel_rfl
    case y12_11 => (intro w hC; go_simp; try with_reducible rfl)
    case f12_11 => (go_simp; try with_reducible rfl)
    refine anyW_take (i := 13) (v := ?v13_12) (a' := ?a13_12) (by first | exact Kx.bears_x | assumption) rfl (by kernel_rfl) (by kernel_rfl) (by kernel_rfl) (fun _ _ _ h => h) (by kernel_rfl) ?w13_12 ?y13_12 ?f13_12 ?r13_12
    case w13_12 => kernel_rfl
    case y13_12 => (intro w hC; go_simp; try with_reducible rfl)
    case f13_12 => (go_simp; try with_reducible rfl)
    refine anyW_take (i := 14) (v := ?v14_13) (a' := ?a14_13) (by first | exact Kx.bears_x | assumption) rfl (by kernel_rfl) (by kernel_rfl) (by kernel_rfl) (fun _ _ _ h => h) (by kernel_rfl) ?w14_13 ?y14_13 ?f14_13 ?r14_13
    case w14_13 => kernel_rfl
    case y14_13 => (intro w hC; go_simp; try with_reducible rfl)
    case f14_13 => (go_simp; try with_reducible rfl)
    refine anyW_call (i := 15) (v := ?v15_14) (f := ?g15_14) (args := ?s15_14) (a' := ?a15_14) (by first | exact Kx.bears_x | assumption) rfl (by kernel_rfl) (by kernel_rfl) (by kernel_rfl) (fun _ _ _ h => h) (by kernel_rfl) ?c15_14 ?w15_14 ?y15_14 ?f15_14 ?r15_14
    case w15_14 => kernel_rfl
    case y15_14 => (intro W hW; go_simp; first | (refine ⟨?_, ?_⟩ <;> with_reducible rfl) | with_reducible rfl)
    case c15_14 => (intro W hW; refine Calls.mono (Tally_any a0 len0 cap0 _ l a2 a3 a4 W (HR.out.below hW.below) hW.size HN.out (by omega) HW.out HO.out) ?_; rintro e w_ ⟨rfl, hb_⟩; refine ⟨?_, by first | exact hb_ | exact hb_ ▸ Below.refl _ _⟩; with_reducible rfl)
    case f15_14 => (go_simp; try with_reducible rfl)
    refine anyW_take (i := 16) (v := ?v16_15) (a' := ?a16_15) (by first | exact Kx.bears_x | assumption) rfl (by kernel_rfl) (by kernel_rfl) (by kernel_rfl) (fun _ _ _ h => h) (by kernel_rfl) ?w16_15 ?y16_15 ?f16_15 ?r16_15
    case w16_15 => kernel_rfl
    case y16_15 => (intro w hC; go_simp; try with_reducible rfl)
    case f16_15 => (go_simp; try with_reducible rfl)
    refine anyW_take (i := 17) (v := ?v17_16) (a' := ?a17_16) (by first | exact Kx.bears_x | assumption) rfl (by kernel_rfl) (by kernel_rfl) (by kernel_rfl) (fun _ _ _ h => h) (by kernel_rfl) ?w17_16 ?y17_16 ?f17_16 ?r17_16
    case w17_16 => kernel_rfl
    case y17_16 => (intro w hC; go_simp; try with_reducible rfl)
    case f17_16 => (go_simp; try with_reducible rfl)
    refine anyW_take (i := 18) (v := ?v18_17) (a' := ?a18_17) (by first | exact Kx.bears_x | assumption) rfl (by kernel_rfl) (by kernel_rfl) (by kernel_rfl) (fun _ _ _ h => h) (by kernel_rfl) ?w18_17 ?y18_17 ?f18_17 ?r18_17
    case w18_17 => kernel_rfl
    case y18_17 => (intro w hC; go_simp; try with_reducible rfl)
    case f18_17 => (go_simp; try with_reducible rfl)
    refine anyW_take (i := 19) (v := ?v19_18) (a' := ?a19_18) (by first | exact Kx.bears_x | assumption) rfl (by kernel_rfl) (by kernel_rfl) (by kernel_rfl) (fun _ _ _ h => h) (by kernel_rfl) ?w19_18 ?y19_18 ?f19_18 ?r19_18
    case w19_18 => kernel_rfl
    case y19_18 => (intro w hC; go_simp; try with_reducible rfl)
    case f19_18 => (go_simp; try with_reducible rfl)
    refine anyW_call (i := 20) (v := ?v20_19) (f := ?g20_19) (args := ?s20_19) (a' := ?a20_19) (by first | exact Kx.bears_x | assumption) rfl (by kernel_rfl) (by kernel_rfl) (by kernel_rfl) (fun _ _ _ h => h) (by kernel_rfl) ?c20_19 ?w20_19 ?y20_19 ?f20_19 ?r20_19
    case w20_19 => kernel_rfl
    case y20_19 => (intro W hW; go_simp; first | (refine ⟨?_, ?_⟩ <;> with_reducible rfl) | with_reducible rfl)
    case c20_19 => (intro W hW; refine Calls.mono (RTally_any a0 len0 cap0 _ l a2 a3 a4 W (HR.out.below hW.below) hW.size HN.out (by omega) HW.out HO.out) ?_; rintro e w_ ⟨rfl, hb_⟩; refine ⟨?_, by first | exact hb_ | exact hb_ ▸ Below.refl _ _⟩; with_reducible rfl)
    case f20_19 => (go_simp; try with_reducible rfl)
    refine anyW_take (i := 21) (v := ?v21_20) (a' := ?a21_20) (by first | exact Kx.bears_x | assumption) rfl (by kernel_rfl) (by kernel_rfl) (by kernel_rfl) (fun _ _ _ h => h) (by kernel_rfl) ?w21_20 ?y21_20 ?f21_20 ?r21_20
    case w21_20 => kernel_rfl
    case y21_20 => (intro w hC; go_simp; try with_reducible rfl)
    case f21_20 => (go_simp; try with_reducible rfl)
    refine anyW_take (i := 22) (v := ?v22_21) (a' := ?a22_21) (by first | exact Kx.bears_x | assumption) rfl (by kernel_rfl) (by kernel_rfl) (by kernel_rfl) (fun _ _ _ h => h) (by kernel_rfl) ?w22_21 ?y22_21 ?f22_21 ?r22_21
    case w22_21 => kernel_rfl
    case y22_21 => (intro w hC; go_simp; try with_reducible rfl)
    case f22_21 => (go_simp; try with_reducible rfl)
    refine anyW_take (i := 23) (v := ?v23_22) (a' := ?a23_22) (by first | exact Kx.bears_x | assumption) rfl (by kernel_rfl) (by kernel_rfl) (by kernel_rfl) (fun _ _ _ h => h) (by kernel_rfl) ?w23_22 ?y23_22 ?f23_22 ?r23_22
    case w23_22 => kernel_rfl
    case y23_22 => (intro w hC; go_simp; try with_reducible rfl)
    case f23_22 => (go_simp; try with_reducible rfl)
    refine anyW_done (by kernel_rfl) ?_
    clear HB
    intro w_ HB_
    have HB := Lib.hid HB_
    clear HB_
    go_wp2
    go_ret
    exact ⟨by simp, HB.out.below⟩
end Go.Proofs.Ytpchkhphpcopkaa
