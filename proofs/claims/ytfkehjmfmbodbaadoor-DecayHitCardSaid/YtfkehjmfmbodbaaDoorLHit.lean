/- DecayHit, walked. -/
import Derived.Test.YtfkehjmfmbodbaaDoorDb
namespace Go.Proofs.YtfkehjmfmbodbaaDoor
open Go.RowKit Go.Shelf Km Kx

set_option maxRecDepth 100000 in
set_option maxHeartbeats 1000000 in
theorem hit_walk (a0 a1 : Int) (w : World) (_w0 : (Lit.int .i64 a0).wf = true) (_w1 : (Lit.int .i64 a1).wf = true) (ht : DTab w) :
    Calls Tryd.prog 6 #[.int .i64 a0, .int .i64 a1] w fun e w' => e = .returned (.bool true) ∧ Below w.heap.size w w' := by
  have HB := Lib.hid (Bxs.start w)
  have HT := Lib.hid ht
  clear ht _w0 _w1
  have K1 : Hid (∀ W, Calls Tryd.prog 11 #[.int .i64 a0, .int .i64 a1] W fun e w' => e = .returned (.int .i64 (Dm.hit a0 a1)) ∧ Below W.heap.size W w') := Lib.hid (fun W => Hit_b a0 a1 W)
  have K2 : Hid (∀ W, Calls Tryd.prog 11 #[.int .i64 a1, .int .i64 a0] W fun e w' => e = .returned (.int .i64 (Dm.hit a0 a1)) ∧ Below W.heap.size W w') := Lib.hid (fun W => by rw [Dm.hit_comm]; exact Hit_b a1 a0 W)
  have hin := Dm.hit_in a0 a1
  have hge := Dm.hit_ge (pen := a0) (more := a1)
  generalize Dm.hit a0 a1 = n at *
  obtain ⟨n1, n2⟩ := hin
  have d1 : decide ((0 : Int) ≤ n) = true := decide_eq_true n1
  have d2 : decide (n ≤ (1000000 : Int)) = true := decide_eq_true n2
  by_cases h1 : a0 < 0
  · have c1 : decide (a0 < (0 : Int)) = true := decide_eq_true h1
    clear hge
    go_enter Tryd.func6, Tryd.ntmps6
    go_wp2_with (first | (go_at_call 8; refine Calls.mono (head_any _ (HT.out.below HB.out.below (Nat.le_refl _))) ?_; rintro e w_ ⟨rfl, hb_⟩; replace HB := Lib.hid (HB.out.call hb_); clear hb_) | (go_at_call 11; with_reducible refine Kx.args_gate #[.int .i64 a0, .int .i64 a1] ?_; refine Calls.mono (K1.out _) ?_; rintro e w_ ⟨rfl, hb_⟩; replace HB := Lib.hid (HB.out.call hb_); clear hb_) | (go_at_call 11; with_reducible refine Kx.args_gate #[.int .i64 a1, .int .i64 a0] ?_; refine Calls.mono (K2.out _) ?_; rintro e w_ ⟨rfl, hb_⟩; replace HB := Lib.hid (HB.out.call hb_); clear hb_))
    go_ret
    exact ⟨rfl, HB.out.below⟩
  · have c1 : decide (a0 < (0 : Int)) = false := decide_eq_false h1
    by_cases h2 : 1000000 < a0
    · have c2 : decide ((1000000 : Int) < a0) = true := decide_eq_true h2
      clear hge
      go_enter Tryd.func6, Tryd.ntmps6
      go_wp2_with (first | (go_at_call 8; refine Calls.mono (head_any _ (HT.out.below HB.out.below (Nat.le_refl _))) ?_; rintro e w_ ⟨rfl, hb_⟩; replace HB := Lib.hid (HB.out.call hb_); clear hb_) | (go_at_call 11; with_reducible refine Kx.args_gate #[.int .i64 a0, .int .i64 a1] ?_; refine Calls.mono (K1.out _) ?_; rintro e w_ ⟨rfl, hb_⟩; replace HB := Lib.hid (HB.out.call hb_); clear hb_) | (go_at_call 11; with_reducible refine Kx.args_gate #[.int .i64 a1, .int .i64 a0] ?_; refine Calls.mono (K2.out _) ?_; rintro e w_ ⟨rfl, hb_⟩; replace HB := Lib.hid (HB.out.call hb_); clear hb_))
      go_ret
      exact ⟨rfl, HB.out.below⟩
    · have c2 : decide ((1000000 : Int) < a0) = false := decide_eq_false h2
      have hle := hge (by omega) (by omega)
      have c3 : decide (a0 ≤ n) = true := decide_eq_true hle
      clear hge
      go_enter Tryd.func6, Tryd.ntmps6
      go_wp2_with (first | (go_at_call 8; refine Calls.mono (head_any _ (HT.out.below HB.out.below (Nat.le_refl _))) ?_; rintro e w_ ⟨rfl, hb_⟩; replace HB := Lib.hid (HB.out.call hb_); clear hb_) | (go_at_call 11; with_reducible refine Kx.args_gate #[.int .i64 a0, .int .i64 a1] ?_; refine Calls.mono (K1.out _) ?_; rintro e w_ ⟨rfl, hb_⟩; replace HB := Lib.hid (HB.out.call hb_); clear hb_) | (go_at_call 11; with_reducible refine Kx.args_gate #[.int .i64 a1, .int .i64 a0] ?_; refine Calls.mono (K2.out _) ?_; rintro e w_ ⟨rfl, hb_⟩; replace HB := Lib.hid (HB.out.call hb_); clear hb_))
      go_ret
      exact ⟨rfl, HB.out.below⟩
end Go.Proofs.YtfkehjmfmbodbaaDoor
