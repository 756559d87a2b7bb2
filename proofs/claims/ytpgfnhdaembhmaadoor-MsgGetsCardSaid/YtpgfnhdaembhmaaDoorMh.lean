/- Whether two messages are alike: the document's. -/
import Derived.Test.YtpgfnhdaembhmaaDoorMa
import Derived.Test.YtpgfnhdaembhmaaDoorBQv
namespace Go.Proofs.YtpgfnhdaembhmaaDoor
open Go.RowKit Go.Shelf

set_option maxRecDepth 100000 in
set_option maxHeartbeats 8000000 in
theorem RMSame_any (x y : Mm.Ms) (l m : Lo) (B B2 : Nat) (w : World) (hp : MsAt w B x l) (hq : MsAt w B2 y m) (hB : B ≤ w.heap.size) (hB2 : B2 ≤ w.heap.size) :
    Calls Tryd.prog 20 #[mv x l, mv y m] w fun e w' => e = .returned (.bool (Mm.same x y)) ∧ Below w.heap.size w w' := by
  have hz1 : (w.alloc (.cells (mvs x l).toArray 30)).heap.size = w.heap.size + 1 := World.size_alloc ..
  have hx0 := Mx.new w x l 30
  have hx1 := hx0.below (B := w.heap.size + 1) ((Below.refl _ (w.alloc (.cells (mvs x l).toArray 30))).alloc (by omega) (.cells (mvs y m).toArray 30)) (Nat.lt_succ_self _)
  have hy1 := Mx.new (w.alloc (.cells (mvs x l).toArray 30)) y m 30
  have hbw : Hid (Below w.heap.size w ((w.alloc (.cells (mvs x l).toArray 30)).alloc (.cells (mvs y m).toArray 30))) := ((Below.refl _ w).alloc (Nat.le_refl _) _).alloc (by omega) _
  have hz2 : ((w.alloc (.cells (mvs x l).toArray 30)).alloc (.cells (mvs y m).toArray 30)).heap.size = w.heap.size + 2 := by rw [World.size_alloc, hz1]
  rw [hz1] at hy1
  have HX := Lib.hid (fun (W : World) (h : Below (w.heap.size + 2) ((w.alloc (.cells (mvs x l).toArray 30)).alloc (.cells (mvs y m).toArray 30)) W) => (hx1.below h (by omega) : Mx W w.heap.size x l))
  have HY := Lib.hid (fun (W : World) (h : Below (w.heap.size + 2) ((w.alloc (.cells (mvs x l).toArray 30)).alloc (.cells (mvs y m).toArray 30)) W) => (hy1.below h (Nat.lt_succ_self _) : Mx W (w.heap.size + 1) y m))
  have HPX := Lib.hid hx1.plan
  have HPY := Lib.hid hy1.plan
  have HS := Lib.hid (RSame_any x.plan y.plan _ _ _ _ _ _ B _ _ _ _ _ _ B2 _ (hp.pl.below hbw.out hB) (hq.pl.below hbw.out hB2) (by omega) (by omega))
  have HI := Lib.hid (fun (W : World) (h : Below w.heap.size w W) => Same_any l.A3 m.A3 l.n3 m.n3 l.c3 m.c3 B B2 x.id y.id W (hp.r3.below (h.mono hB)) (hq.r3.below (h.mono hB2)) hp.l3 hq.l3 (Nat.le_trans hp.c3 hp.m3))
  have HC1 := Lib.hid (fun (W : World) (h : Below w.heap.size w W) => str_of (cap := l.c4) (hp.r4.below (h.mono hB)) hp.l4)
  have HC2 := Lib.hid (fun (W : World) (h : Below w.heap.size w W) => str_of (cap := m.c4) (hq.r4.below (h.mono hB2)) hq.l4)
  have HC3 := Lib.hid (fun (W : World) (h : Below w.heap.size w W) => str_of (cap := l.c5) (hp.r5.below (h.mono hB)) hp.l5)
  have HC4 := Lib.hid (fun (W : World) (h : Below w.heap.size w W) => str_of (cap := m.c5) (hq.r5.below (h.mono hB2)) hq.l5)
  have hq1 := str_beq hp.ok.se hq.ok.se
  have hq2 := str_beq hp.ok.pa hq.ok.pa
  have HBW := Lib.hid (fun (W : World) (h : Below (w.heap.size + 2) ((w.alloc (.cells (mvs x l).toArray 30)).alloc (.cells (mvs y m).toArray 30)) W) => hbw.out.trans (h.mono (by omega)))
  have HZ2 := Lib.hid hz2
  clear hx0 hx1 hy1 hz1 hz2 hp hq hB hB2
  unfold mv
  generalize mvs x l = L at *
  generalize mvs y m = M at *
  have NY := Lib.hid (fun a0 a1 a2 a3 a4 a5 a6 a7 a8 a9 a10 a11 a12 a13 => Mm.same_pa2 (x := x) (y := y) a0 a1 a2 a3 a4 a5 a6 a7 a8 a9 a10 a11 a12 a13)
  have N_k := Lib.hid (fun (h : ¬ x.k = y.k) => Mm.same_no (x := x) (y := y) (fun q => h (by rw [q])))
  have N_f := Lib.hid (fun (h : ¬ x.f = y.f) => Mm.same_no (x := x) (y := y) (fun q => h (by rw [q])))
  have N_t := Lib.hid (fun (h : ¬ x.t = y.t) => Mm.same_no (x := x) (y := y) (fun q => h (by rw [q])))
  have N_e := Lib.hid (fun (h : ¬ x.e = y.e) => Mm.same_no (x := x) (y := y) (fun q => h (by rw [q])))
  have N_b := Lib.hid (fun (h : ¬ x.b = y.b) => Mm.same_no (x := x) (y := y) (fun q => h (by rw [q])))
  have N_a := Lib.hid (fun (h : ¬ x.a = y.a) => Mm.same_no (x := x) (y := y) (fun q => h (by rw [q])))
  have N_n := Lib.hid (fun (h : ¬ x.n = y.n) => Mm.same_no (x := x) (y := y) (fun q => h (by rw [q])))
  have N_ti := Lib.hid (fun (h : ¬ x.ti = y.ti) => Mm.same_no (x := x) (y := y) (fun q => h (by rw [q])))
  have N_up := Lib.hid (fun (h : ¬ x.up = y.up) => Mm.same_no (x := x) (y := y) (fun q => h (by rw [q])))
  have N_co := Lib.hid (fun (h : ¬ x.co = y.co) => Mm.same_no (x := x) (y := y) (fun q => h (by rw [q])))
  have N_has := Lib.hid (fun (h : ¬ x.has = y.has) => Mm.same_no (x := x) (y := y) (fun q => h (by rw [q])))
  have N_id := Lib.hid (fun (h : ¬ x.id = y.id) => Mm.same_no (x := x) (y := y) (fun q => h (by rw [q])))
  have N_se := Lib.hid (fun (h : ¬ x.se = y.se) => Mm.same_no (x := x) (y := y) (fun q => h (by rw [q])))
  have N_pl := Lib.hid (fun (h : Pm.same x.plan y.plan = !true) => Mm.same_no (x := x) (y := y) (fun q => by rw [q, Mm.psame_yes] at h; cases h))
  go_enter Tryd.func20, Tryd.ntmps20
  repeat (first
    | go_skip
    | (with_reducible refine wpList_gate0 ?_
       fail_if_success (with_reducible refine wpList_gate ?_)
       refine wpList_gate ?_)
    | (with_reducible refine wpList_gate ?_
       fail_if_success (refine wpList_sure rfl ?_)
       refine wpList_forkN 13 5 false rfl rfl rfl rfl (by kernel_rfl) (fun h => ?_) (fun h a' h1 h2 h3 h4 => ?_)
       rw [h])
    | (with_reducible refine wpList_gate ?_
       fail_if_success (refine wpList_sure rfl ?_)
       refine wpList_forkN 97 4 false rfl rfl rfl rfl (by kernel_rfl) (fun h => ?_) (fun h a' h1 h2 h3 h4 => ?_)
       rw [h])
    | (with_reducible refine wpList_gate ?_
       refine wpList_load_mid rfl 27 _ rfl w.heap.size 11 rfl _ _ HPX.out Tryd.underlying27 rfl info_plan ?_)
    | (with_reducible refine wpList_gate ?_
       refine wpList_load_mid rfl 27 _ rfl (w.heap.size + 1) 11 rfl _ _ HPY.out Tryd.underlying27 rfl info_plan ?_)
    | (go_at_call 35
       refine HS.out.mono ?_
       rintro e w3 ⟨rfl, hb3⟩
       rw [HZ2.out] at hb3
       dsimp only
       have k23 := (HX.out w3 hb3).id
       have j23 := (HY.out w3 hb3).id)
    | (go_at_call 52
       refine (HI.out _ (HBW.out _ (by assumption))).mono ?_
       rintro e w4 ⟨rfl, nd, rfl⟩
       dsimp only
       have hb4 := Lib.hid (below_drawn (by assumption) nd : Below (w.heap.size + 2) _ (World.drewN _ nd))
       clear k23 j23
       have k0 := (HX.out _ hb4.out).at 0 rfl
       have j0 := (HY.out _ hb4.out).at 0 rfl
       have k1 := (HX.out _ hb4.out).at 1 rfl
       have j1 := (HY.out _ hb4.out).at 1 rfl
       have k2 := (HX.out _ hb4.out).at 2 rfl
       have j2 := (HY.out _ hb4.out).at 2 rfl
       have k3 := (HX.out _ hb4.out).at 3 rfl
       have j3 := (HY.out _ hb4.out).at 3 rfl
       have k4 := (HX.out _ hb4.out).at 4 rfl
       have j4 := (HY.out _ hb4.out).at 4 rfl
       have k5 := (HX.out _ hb4.out).at 5 rfl
       have j5 := (HY.out _ hb4.out).at 5 rfl
       have k6 := (HX.out _ hb4.out).at 6 rfl
       have j6 := (HY.out _ hb4.out).at 6 rfl
       have k7 := (HX.out _ hb4.out).at 7 rfl
       have j7 := (HY.out _ hb4.out).at 7 rfl
       have k8 := (HX.out _ hb4.out).at 8 rfl
       have j8 := (HY.out _ hb4.out).at 8 rfl
       have k9 := (HX.out _ hb4.out).at 9 rfl
       have j9 := (HY.out _ hb4.out).at 9 rfl
       have k10 := (HX.out _ hb4.out).at 10 rfl
       have j10 := (HY.out _ hb4.out).at 10 rfl
       have k24 := (HX.out _ hb4.out).se
       have j24 := (HY.out _ hb4.out).se
       have k25 := (HX.out _ hb4.out).pa
       have j25 := (HY.out _ hb4.out).pa
       have c1 := HC1.out _ (HBW.out _ hb4.out)
       have c2 := HC2.out _ (HBW.out _ hb4.out)
       have c3 := HC3.out _ (HBW.out _ hb4.out)
       have c4 := HC4.out _ (HBW.out _ hb4.out))
    | (fail_if_success (with_reducible refine wpList_gate ?_)
       go_step)
    | (with_reducible refine wpList_gate ?_
       refine wpList_sure rfl ?_
       go_step))
  all_goals first
    | (have hleaf := h3
       go_step
       go_step
       go_step
       refine bodyPost_ret (results_tmp rfl _ _ _) h1 ?_
       rw [h3]
       clear hleaf h1 h2 h3 h4
       refine ⟨ret_bool ?_, ?_⟩
       · first | exact (N_pl.out h).symm | exact (N_k.out (Mm.nb h)).symm | exact (N_f.out (Mm.nb h)).symm | exact (N_t.out (Mm.nb h)).symm | exact (N_e.out (Mm.nb h)).symm | exact (N_b.out (Mm.nb h)).symm | exact (N_a.out (Mm.nb h)).symm | exact (N_n.out (Mm.nb h)).symm | exact (N_ti.out (Mm.nb h)).symm | exact (N_up.out (Mm.nb h)).symm | exact (N_co.out (Mm.nb h)).symm | exact (N_has.out (Mm.nb h)).symm | exact (N_id.out (Mm.nd h)).symm | exact (N_se.out (Mm.nd h)).symm
       · first | exact HBW.out _ hb4.out | exact HBW.out _ hb3)
    | (have hleaf := h3
       go_step
       go_step
       go_step
       go_step
       refine wpList_dead1 114 5 false 4 false h2 h3 (by kernel_rfl) (fun a'' g1 g2 g3 => ?_)
       go_step
       go_step
       go_step
       refine bodyPost_ret (results_tmp rfl _ _ _) (g1.trans h1) ?_
       rw [g3]
       refine ⟨ret_bool ?_, HBW.out _ hb3⟩
       exact (N_pl.out h).symm)
    | (go_ret
       refine ⟨ret_bool ?_, HBW.out _ hb4.out⟩
       exact (NY.out (by assumption) (by first | assumption | exact eq_of_beq (by assumption) | exact of_decide_eq_true (by assumption)) (by first | assumption | exact eq_of_beq (by assumption) | exact of_decide_eq_true (by assumption)) (by first | assumption | exact eq_of_beq (by assumption) | exact of_decide_eq_true (by assumption)) (by first | assumption | exact eq_of_beq (by assumption) | exact of_decide_eq_true (by assumption)) (by first | assumption | exact eq_of_beq (by assumption) | exact of_decide_eq_true (by assumption)) (by first | assumption | exact eq_of_beq (by assumption) | exact of_decide_eq_true (by assumption)) (by first | assumption | exact eq_of_beq (by assumption) | exact of_decide_eq_true (by assumption)) (by first | assumption | exact eq_of_beq (by assumption) | exact of_decide_eq_true (by assumption)) (by first | assumption | exact eq_of_beq (by assumption) | exact of_decide_eq_true (by assumption)) (by first | assumption | exact eq_of_beq (by assumption) | exact of_decide_eq_true (by assumption)) (by first | assumption | exact eq_of_beq (by assumption) | exact of_decide_eq_true (by assumption)) (by first | assumption | exact eq_of_beq (by assumption) | exact of_decide_eq_true (by assumption)) (by first | assumption | exact eq_of_beq (by assumption) | exact of_decide_eq_true (by assumption))).symm)
end Go.Proofs.YtpgfnhdaembhmaaDoor
