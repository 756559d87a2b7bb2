import Derived.Test.YtnipaifkgjbanaaKitR
import Derived.Test.YtnipaifkgjbanaaW11
import Derived.Deep.RegionWith
namespace Go.Proofs.Ytnipaifkgjbanaa
open Go.RowKit Go.Shelf

set_option maxRecDepth 100000 in
set_option maxHeartbeats 16000000 in
theorem ints_walk (a0 : Int) (a1 : Option Addr) (len1 cap1 : Nat) (z1 : List Int) (a2 : Int) (w : World) (w0 : (Lit.int .i64 a0).wf = true) (w1 : RowOf .u8 w a1 len1 cap1 z1) (w2 : (Lit.int .i64 a2).wf = true) :
    Calls Try.prog 3 #[.int .i64 a0, .slice a1 len1 cap1, .int .i64 a2] w fun e w' => e = .returned (.bool true) ∧ Below w.heap.size w w' := by
  have b0 := wf_i64 w0
  have b2 := wf_i64 w2
  obtain ⟨xs, hn, hnc, hcm, hr, hw⟩ := row_rd w1
  have HB := Lib.hid (wf_u8 hw)
  have HR := Lib.hid hr
  clear w0 w1 w2 hw hr
  generalize hq : Wm.rd xs a2 = q
  have HQ := Lib.hid hq
  clear hq
  obtain ⟨q1, q2, q3⟩ := q
  go_enter Try.func3, Try.ntmps3
  go_wp2_with (first | (go_at_call 11; refine (head_any _).mono ?_; rintro e w1 ⟨rfl, hb1⟩) | (go_at_call 12; refine (Int_any _ _ _ _ xs _ _ (by exact HR.out.below hb1) hn hnc hcm HB.out b2.1 b2.2).mono ?_; rw [HQ.out]; rintro e w' ⟨rfl, rfl⟩) | (go_at_call 13; refine (RInt_any _ _ _ _ xs _ _ (by exact HR.out.below hb1) hn hnc hcm HB.out b2.1 b2.2).mono ?_; rw [HQ.out]; rintro e w' ⟨rfl, rfl⟩))
  have HB1 := Lib.hid hb1
  have hsz1 := hb1.size
  clear HQ HB HR b2 hn hnc hcm hb1
  refine wp_region_any (by kernel_rfl) ?_
  change wpAny _ _ _ _ _ _ _ (World.drew _)
  refine wpAny_take_flat (i := 0) (v := ?v0) (a' := ?a0) rfl (by kernel_rfl) (by kernel_rfl) (by kernel_rfl) (fun _ _ _ h => h) ?w0 ?y0 ?f0 ?r0
  case w0 => kernel_rfl
  case y0 => (intro w; go_simp; try with_reducible rfl)
  case f0 => (go_simp; try with_reducible rfl)
  refine wpAny_take_flat (i := 1) (v := ?v1) (a' := ?a1) rfl (by kernel_rfl) (by kernel_rfl) (by kernel_rfl) (fun _ _ _ h => h) ?w1 ?y1 ?f1 ?r1
  case w1 => kernel_rfl
  case y1 => (intro w; go_simp; try with_reducible rfl)
  case f1 => (go_simp; try with_reducible rfl)
  refine wpAny_take_flat (i := 2) (v := ?v2) (a' := ?a2) rfl (by kernel_rfl) (by kernel_rfl) (by kernel_rfl) (fun _ _ _ h => h) ?w2 ?y2 ?f2 ?r2
  case w2 => kernel_rfl
  case y2 => (intro w; go_simp; try with_reducible rfl)
  case f2 => (go_simp; try with_reducible rfl)
  refine wpAny_take_flat (i := 5) (v := ?v5) (a' := ?a5) rfl (by kernel_rfl) (by kernel_rfl) (by kernel_rfl) (fun _ _ _ h => h) ?w5 ?y5 ?f5 ?r5
  case w5 => kernel_rfl
  case y5 => (intro w; go_simp; try with_reducible rfl)
  case f5 => (go_simp; try with_reducible rfl)
  refine wpAny_ready (rs := [3]) (by kernel_rfl) (by simp) ?_
  refine AllReady.cons rfl (fun K hK => ?_) AllReady.nil
  go_simp
  go_wp2_with (go_at_call 14; refine (PutInt_any _ _ b0.1 b0.2).mono ?_; rintro e w2 ⟨v, rfl, hown2, hb2⟩; obtain ⟨A2, cap2, rfl, -, -, hrd2⟩ := own_view hown2; have HB2 := Lib.hid hb2; have HR2 := Lib.hid hrd2; clear hown2 hb2 hrd2)
  refine wpAny_ready (rs := [4, 6]) (by kernel_rfl) (by simp) ?_
  refine AllReady.cons rfl (fun K hK => ?_) (AllReady.cons rfl (fun K hK => ?_) AllReady.nil)
  · have hcv2 := str_of (cap := cap2) HR2.out rfl
    go_simp
    refine hK _ _ ?_
    clear hK
    refine wpAny_ready (rs := [6]) (by kernel_rfl) (by simp) ?_
    refine AllReady.cons rfl (fun K hK => ?_) AllReady.nil
    go_simp
    go_wp2_with (go_at_call 15; refine (RPutInt_any _ _ b0.1 b0.2).mono ?_; rintro e w3 ⟨v, rfl, hown3, hb3⟩; obtain ⟨A3, cap3, rfl, -, -, hrd3⟩ := own_view hown3; have HB3 := Lib.hid hb3; have HR3 := Lib.hid hrd3; clear hown3 hb3 hrd3)
    have hcv3 : ∀ nq, (convert 22 9 (.slice A3 (Wm.pint a0).length cap3)).run Try.prog (w3.drewN nq) = .ok (.string (strOfNums (Wm.pint a0))) (w3.drewN nq) := fun nq => str_of (HR3.out.drewN nq) rfl
    refine wpAny_rest 7 (by kernel_rfl) rfl (by kernel_rfl) ?_
    repeat (quiet_step (fail))
    refine wpQuiet_nil ?_
    rintro _ ⟨nq, rfl⟩
    go_wp2
    go_ret
    exact ⟨rfl, below_drawn (HB1.out.trans (((below_drawn (Below.refl _ _) 1).trans (HB2.out.trans (HB3.out.mono HB2.out.size))).mono hsz1)) nq⟩
  · go_simp
    go_wp2_with (go_at_call 15; refine (RPutInt_any _ _ b0.1 b0.2).mono ?_; rintro e w3 ⟨v, rfl, hown3, hb3⟩; obtain ⟨A3, cap3, rfl, -, -, hrd3⟩ := own_view hown3; have HB3 := Lib.hid hb3; have HR3 := Lib.hid hrd3; clear hown3 hb3 hrd3)
    have hcv2 : ∀ nq, (convert 22 9 (.slice A2 (Wm.pint a0).length cap2)).run Try.prog (w3.drewN nq) = .ok (.string (strOfNums (Wm.pint a0))) (w3.drewN nq) := fun nq => str_of ((HR2.out.below HB3.out).drewN nq) rfl
    have hcv3 : ∀ nq, (convert 22 9 (.slice A3 (Wm.pint a0).length cap3)).run Try.prog (w3.drewN nq) = .ok (.string (strOfNums (Wm.pint a0))) (w3.drewN nq) := fun nq => str_of (HR3.out.drewN nq) rfl
    refine wpAny_rest1 4 7 (.string (strOfNums (Wm.pint a0))) rfl (by kernel_rfl) (by kernel_rfl) (by kernel_rfl) (by rfl) (by intro nq; go_simp) rfl (by kernel_rfl) ?_
    repeat (quiet_step (fail))
    refine wpQuiet_nil ?_
    rintro _ ⟨nq, rfl⟩
    go_wp2
    go_ret
    exact ⟨rfl, below_drawn (HB1.out.trans (((below_drawn (Below.refl _ _) 1).trans (HB2.out.trans (HB3.out.mono HB2.out.size))).mono hsz1)) nq⟩
end Go.Proofs.Ytnipaifkgjbanaa
