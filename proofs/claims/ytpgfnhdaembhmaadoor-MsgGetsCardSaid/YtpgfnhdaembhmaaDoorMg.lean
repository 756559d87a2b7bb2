/- Whether a message is right: the document's. -/
import Derived.Test.YtpgfnhdaembhmaaDoorMa
import Derived.Test.YtpgfnhdaembhmaaDoorBQr
import Derived.Test.YtpgfnhdaembhmaaDoorBQv
namespace Go.Proofs.YtpgfnhdaembhmaaDoor
open Go.RowKit Go.Shelf

set_option maxRecDepth 100000 in
set_option maxHeartbeats 4000000 in
theorem RMRight_any (x : Mm.Ms) (l : Lo) (B : Nat) (w : World) (hp : MsAt w B x l) (hB : B ≤ w.heap.size) :
    Calls Tryd.prog 15 #[mv x l] w fun e w' => e = .returned (.bool x.right) ∧ Below w.heap.size w w' := by
  have hx1 := Mx.new w x l 30
  have hb1 : Hid (Below w.heap.size w (w.alloc (.cells (mvs x l).toArray 30))) := (Below.refl _ w).alloc (Nat.le_refl _) _
  have hz1 : w.heap.size ≤ (w.alloc (.cells (mvs x l).toArray 30)).heap.size := by rw [World.size_alloc]; omega
  have k0 := hx1.at 0 rfl
  have k1 := hx1.at 1 rfl
  have k2 := hx1.at 2 rfl
  have k8 := hx1.at 8 rfl
  have k9 := hx1.at 9 rfl
  have k10 := hx1.at 10 rfl
  have k23 := hx1.id
  have k24 := hx1.se
  have k25 := hx1.pa
  have HPL := Lib.hid hx1.plan
  have HR := Lib.hid (RRight_any x.plan _ _ _ _ _ _ B _ (hp.pl.below hb1.out hB) (Nat.le_trans hB hz1))
  have HS := Lib.hid (RSame_any x.plan Pm.zero _ _ _ _ _ _ B none 0 0 none 0 0 0 _ (hp.pl.below hb1.out hB) (PlAt.zero _ 0) (Nat.le_trans hB hz1) (Nat.zero_le _))
  have hz := Lib.hid hz1
  have hc3 : Hid ((((l.n3 : Int) != 0) = false ∧ (x.id.length = 0 ∨ x.id.length = 3)) ∨ (((l.n3 : Int) != 0) = true ∧ ((l.n3 : Int) != 3) = false ∧ (x.id.length = 0 ∨ x.id.length = 3)) ∨ (((l.n3 : Int) != 0) = true ∧ ((l.n3 : Int) != 3) = true ∧ x.right = false)) := by
    have h3 := hp.l3
    by_cases q0 : l.n3 = 0
    · exact .inl ⟨by rw [q0]; rfl, .inl (by omega)⟩
    · have z0 : ((l.n3 : Int) != 0) = true := by rw [bne_iff_ne]; omega
      by_cases q3 : l.n3 = 3
      · exact .inr (.inl ⟨z0, by rw [q3]; rfl, .inr (by omega)⟩)
      · exact .inr (.inr ⟨z0, by rw [bne_iff_ne]; omega, Mm.no_id (by omega) (by omega)⟩)
  have N1 := Lib.hid (Mm.on_k1 (x := x))
  have N2 := Lib.hid (Mm.on_k2 (x := x))
  have N3 := Lib.hid (Mm.on_f1 (x := x))
  have N4 := Lib.hid (Mm.on_f2 (x := x))
  have N5 := Lib.hid (Mm.on_t1 (x := x))
  have N6 := Lib.hid (Mm.on_t2 (x := x))
  have N7 := Lib.hid (Mm.on_up (x := x))
  have N8 := Lib.hid (Mm.on_c1 (x := x))
  have N9 := Lib.hid (Mm.on_c2 (x := x))
  have NA := Lib.hid (Mm.on_se (x := x) hp.l4)
  have NB := Lib.hid (Mm.on_pa (x := x) hp.l5)
  have NY := Lib.hid (fun a1 a2 a3 a4 a5 a6 a7 a8 a9 a10 a11 a12 => Mm.right_pr (x := x) hp.l4 hp.l5 a1 a2 a3 a4 a5 a6 a7 a8 a9 a10 a11 a12)
  have HPR : Hid (x.pright = if x.has then x.plan.right else Pm.same x.plan Pm.zero) := rfl
  clear hp hB hx1 hz1
  unfold mv
  generalize mvs x l = L at *
  all_goals
    go_enter Tryd.func15, Tryd.ntmps15
    repeat (first
      | go_skip
      | (with_reducible refine wpList_gate ?_
         fail_if_success (refine wpList_sure rfl ?_)
         refine wpList_fork 45 true rfl rfl rfl (by kernel_rfl) (fun h => ?_) (fun h a' h1 h2 h3 h4 => ?_)
         rw [h])
      | (fail_if_success (with_reducible refine cond_gate ?_)
         go_step))
    go_step
  all_goals first
    | (have hleaf := h3
       go_step
       go_step
       refine wp_cond_split (t := true) h3 (fun _ => ?_) (fun q => by cases q)
       iterate 9 go_step
       try simp only [Exit.then]
       refine bodyPost_ret (results_tmp rfl _ _ _) (by first | rfl | exact h1) ?_
       rw [getD_set_same _ _ _ (by rw [h2]; exact Nat.le_of_ble_eq_true rfl)]
       refine ⟨ret_bool ?_, hb1.out⟩
       first | exact (N1.out h).symm | exact (N2.out h).symm | exact (N3.out h).symm | exact (N4.out h).symm | exact (N5.out h).symm | exact (N6.out h).symm | exact (N7.out h).symm | exact (N8.out h).symm | exact (NA.out h).symm)
    | (first | have hend := N9.out (by assumption) | have hend := NB.out (by assumption) | have hend := d2
       iterate 9 go_step
       go_ret
       exact ⟨ret_bool hend.symm, hb1.out⟩)
    | (fail_if_success have hleaf := h3
       fail_if_success have hend := N9.out (by assumption)
       skip)
  rcases hc3.out with ⟨d0, hi⟩ | ⟨d0, d1, hi⟩ | ⟨d0, d1, d2⟩
  all_goals
    repeat (first
      | go_skip
      | (with_reducible refine wpList_gate ?_
         fail_if_success (refine wpList_sure rfl ?_)
         refine wpList_fork 67 true rfl rfl rfl (by kernel_rfl) (fun h => ?_) (fun h a' h1 h2 h3 h4 => ?_)
         rw [h])
      | (fail_if_success (with_reducible refine cond_gate ?_)
         go_step))
  all_goals first
    | (have hleaf := h3
       go_step
       go_step
       refine wp_cond_split (t := true) h3 (fun _ => ?_) (fun q => by cases q)
       iterate 9 go_step
       try simp only [Exit.then]
       refine bodyPost_ret (results_tmp rfl _ _ _) (by first | rfl | exact h1) ?_
       rw [getD_set_same _ _ _ (by rw [h2]; exact Nat.le_of_ble_eq_true rfl)]
       refine ⟨ret_bool ?_, hb1.out⟩
       first | exact (N1.out h).symm | exact (N2.out h).symm | exact (N3.out h).symm | exact (N4.out h).symm | exact (N5.out h).symm | exact (N6.out h).symm | exact (N7.out h).symm | exact (N8.out h).symm | exact (NA.out h).symm)
    | go_step
  all_goals first
    | (first | have hend := N9.out (by assumption) | have hend := NB.out (by assumption) | have hend := d2
       iterate 9 go_step
       go_ret
       exact ⟨ret_bool hend.symm, hb1.out⟩)
    | skip
  all_goals
    have hra := NY.out (by assumption) (by assumption) (by assumption) (by assumption) (by assumption) (by assumption) (by assumption) (by assumption) (by omega) (by assumption) (by assumption) (by omega)
    have HRA := Lib.hid hra
    clear hra N1 N2 N3 N4 N5 N6 N7 N8 N9 NA NB NY k0 k1 k2 k8 k9 k23 k24 k25
    cases hh : x.has
    · have HPF : Hid (x.right = Pm.same x.plan Pm.zero) := HRA.out.trans (HPR.out.trans (by rw [hh]; rfl))
      rw [hh] at k10
      go_wp2_with (first | (refine wpList_load_mid rfl 27 _ rfl w.heap.size 11 rfl _ _ HPL.out Tryd.underlying27 rfl info_plan ?_) | (go_at_call 35; refine HS.out.mono ?_; rintro e w2 ⟨rfl, hb2⟩))
      go_ret
      exact ⟨ret_bool HPF.out.symm, hb1.out.trans (hb2.mono hz.out)⟩
    · have HPF : Hid (x.right = x.plan.right) := HRA.out.trans (HPR.out.trans (by rw [hh]; rfl))
      rw [hh] at k10
      go_wp2_with (first | (refine wpList_load_mid rfl 27 _ rfl w.heap.size 11 rfl _ _ HPL.out Tryd.underlying27 rfl info_plan ?_) | (go_at_call 34; refine HR.out.mono ?_; rintro e w2 ⟨rfl, hb2⟩))
      go_ret
      exact ⟨ret_bool HPF.out.symm, hb1.out.trans (hb2.mono hz.out)⟩
end Go.Proofs.YtpgfnhdaembhmaaDoor
