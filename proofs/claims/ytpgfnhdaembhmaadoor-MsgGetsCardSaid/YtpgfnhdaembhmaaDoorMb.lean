/- Whether a message is right: the program's. -/
import Derived.Test.YtpgfnhdaembhmaaDoorMa
namespace Go.Proofs.YtpgfnhdaembhmaaDoor
open Go.RowKit Go.Shelf

set_option maxRecDepth 100000 in
set_option maxHeartbeats 4000000 in
theorem MRight_any (x : Mm.Ms) (l : Lo) (B : Nat) (w : World) (hp : MsAt w B x l) (hB : B ≤ w.heap.size) (ht : Tab w) :
    Calls Tryd.prog 14 #[mv x l] w fun e w' => e = .returned (.bool x.right) ∧ Below w.heap.size w w' := by
  have hx1 := Mx.new w x l 30
  have hb1 : Hid (Below w.heap.size w (w.alloc (.cells (mvs x l).toArray 30))) := (Below.refl _ w).alloc (Nat.le_refl _) _
  have hz1 : w.heap.size ≤ (w.alloc (.cells (mvs x l).toArray 30)).heap.size := by rw [World.size_alloc]; omega
  have k0 := hx1.at 0 rfl
  have k1 := hx1.at 1 rfl
  have k2 := hx1.at 2 rfl
  have k8 := hx1.at 8 rfl
  have k9 := hx1.at 9 rfl
  have HX : Hid ((w.alloc (.cells (mvs x l).toArray 30)).rangeAt w.heap.size 0 (mvs x l)) := hx1
  have HRP := Lib.hid (rightPlan_any x l B _ (hp.below hb1.out hB) (Nat.le_trans hB hz1) (ht.below hb1.out (Nat.le_refl _)))
  have hbb : w.heap.size < (w.alloc (.cells (mvs x l).toArray 30)).heap.size := by rw [World.size_alloc]; omega
  have HI := Lib.hid (fun (W : World) (h : Below (w.alloc (.cells (mvs x l).toArray 30)).heap.size (w.alloc (.cells (mvs x l).toArray 30)) W) => (hx1.below h hbb).id)
  have HS := Lib.hid (fun (W : World) (h : Below (w.alloc (.cells (mvs x l).toArray 30)).heap.size (w.alloc (.cells (mvs x l).toArray 30)) W) => (hx1.below h hbb).se)
  have HP := Lib.hid (fun (W : World) (h : Below (w.alloc (.cells (mvs x l).toArray 30)).heap.size (w.alloc (.cells (mvs x l).toArray 30)) W) => (hx1.below h hbb).pa)
  have hlen := Lib.hid (info_mv x l)
  have hz := Lib.hid hz1
  have hc3 : Hid ((((l.n3 : Int) == 0) = true ∧ (x.id.length = 0 ∨ x.id.length = 3)) ∨ (((l.n3 : Int) == 0) = false ∧ ((l.n3 : Int) == 3) = true ∧ (x.id.length = 0 ∨ x.id.length = 3)) ∨ (((l.n3 : Int) == 0) = false ∧ ((l.n3 : Int) == 3) = false ∧ x.right = false)) := by
    have h3 := hp.l3
    by_cases q0 : l.n3 = 0
    · exact .inl ⟨by rw [q0]; rfl, .inl (by omega)⟩
    · have z0 : ((l.n3 : Int) == 0) = false := by rw [beq_eq_false_iff_ne]; omega
      by_cases q3 : l.n3 = 3
      · exact .inr (.inl ⟨z0, by rw [q3]; rfl, .inr (by omega)⟩)
      · exact .inr (.inr ⟨z0, by rw [beq_eq_false_iff_ne]; omega, Mm.no_id (by omega) (by omega)⟩)
  have hu := hp.ok.up
  have N1 := Lib.hid (Mm.no_k1 (x := x))
  have N2 := Lib.hid (Mm.no_k2 (x := x))
  have N3 := Lib.hid (Mm.no_f (x := x))
  have N4 := Lib.hid (Mm.no_t (x := x))
  have N5 := Lib.hid (Mm.no_up (x := x) hu)
  have N6 := Lib.hid (Mm.no_c1 (x := x))
  have N7 := Lib.hid (Mm.no_c2 (x := x))
  have N8 := Lib.hid (Mm.no_pr (x := x))
  have N9 := Lib.hid (Mm.no_se (x := x) hp.l4)
  have NY := Lib.hid (fun a1 a2 a3 a4 a5 a6 a7 a8 a9 a10 => Mm.right_pa (x := x) hu hp.l4 hp.l5 a1 a2 a3 a4 a5 a6 a7 a8 a9 a10)
  clear hu hz1 hx1 hp hB ht hbb
  unfold mv at HRP ⊢
  generalize mvs x l = L at *
  go_enter Tryd.func14, Tryd.ntmps14
  repeat (first
    | go_skip
    | (with_reducible refine wpList_gate ?_
       fail_if_success (refine wpList_sure rfl ?_)
       refine wpList_fork 2 false rfl rfl rfl (by kernel_rfl) (fun h => ?_) (fun h a' h1 h2 h3 h4 => ?_)
       rw [h])
    | (with_reducible refine wpList_gate ?_
       refine wpList_load_on 30 _ rfl w.heap.size 0 rfl _ _ HX.out Tryd.underlying30 rfl hlen.out (by kernel_rfl) ?_)
    | (go_at_call 32; refine (isNode_any _ _).mono ?_; rintro e w2 ⟨rfl, rfl⟩; dsimp only)
    | (go_at_call 33; refine HRP.out.mono ?_; rintro e w2 ⟨rfl, hb2⟩; dsimp only; have K23 := (HI.out _ hb2); have K24 := (HS.out _ hb2); have K25 := (HP.out _ hb2); rcases hc3.out with ⟨d0, d1⟩ | ⟨d0, d1, d2⟩ | ⟨d0, d1, d2⟩)
    | go_step)
  all_goals (repeat (first
    | go_skip
    | (with_reducible refine wpList_gate ?_
       fail_if_success (refine wpList_sure rfl ?_)
       refine wpList_fork 2 false rfl rfl rfl (by kernel_rfl) (fun h => ?_) (fun h a' h1 h2 h3 h4 => ?_)
       rw [h])
    | (with_reducible refine wpList_gate ?_
       refine wpList_load_on 30 _ rfl w.heap.size 0 rfl _ _ HX.out Tryd.underlying30 rfl hlen.out (by kernel_rfl) ?_)
    | (go_at_call 32; refine (isNode_any _ _).mono ?_; rintro e w2 ⟨rfl, rfl⟩; dsimp only)
    | (go_at_call 33; refine HRP.out.mono ?_; rintro e w2 ⟨rfl, hb2⟩; dsimp only; have K23 := (HI.out _ hb2); have K24 := (HS.out _ hb2); have K25 := (HP.out _ hb2); rcases hc3.out with ⟨d0, d1⟩ | ⟨d0, d1, d2⟩ | ⟨d0, d1, d2⟩)
    | go_step))
  all_goals (repeat (first
    | go_skip
    | (with_reducible refine wpList_gate ?_
       fail_if_success (refine wpList_sure rfl ?_)
       refine wpList_fork 2 false rfl rfl rfl (by kernel_rfl) (fun h => ?_) (fun h a' h1 h2 h3 h4 => ?_)
       rw [h])
    | (with_reducible refine wpList_gate ?_
       refine wpList_load_on 30 _ rfl w.heap.size 0 rfl _ _ HX.out Tryd.underlying30 rfl hlen.out (by kernel_rfl) ?_)
    | (go_at_call 32; refine (isNode_any _ _).mono ?_; rintro e w2 ⟨rfl, rfl⟩; dsimp only)
    | (go_at_call 33; refine HRP.out.mono ?_; rintro e w2 ⟨rfl, hb2⟩; dsimp only; have K23 := (HI.out _ hb2); have K24 := (HS.out _ hb2); have K25 := (HP.out _ hb2); rcases hc3.out with ⟨d0, d1⟩ | ⟨d0, d1, d2⟩ | ⟨d0, d1, d2⟩)
    | go_step))
  all_goals first
    | (refine bodyPost_ret (results_tmp rfl _ _ _) h1 ?_
       rw [h3]
       refine ⟨ret_bool ?_, ?_⟩
       · first | exact (N1.out h).symm | exact (N2.out h).symm | exact (N3.out h).symm | exact (N4.out h).symm | exact (N5.out h).symm | exact (N6.out h).symm | exact (N7.out h).symm | exact (N8.out h).symm | exact (N9.out h).symm
       · first | exact hb1.out | exact hb1.out.trans (hb2.mono hz.out))
    | (go_ret
       refine ⟨ret_bool ?_, hb1.out.trans (hb2.mono hz.out)⟩
       first | exact d2.symm | exact (NY.out (by assumption) (by assumption) (by assumption) (by assumption) (by assumption) (by assumption) (by assumption) (by assumption) (by assumption) (by assumption)).symm)
end Go.Proofs.YtpgfnhdaembhmaaDoor
