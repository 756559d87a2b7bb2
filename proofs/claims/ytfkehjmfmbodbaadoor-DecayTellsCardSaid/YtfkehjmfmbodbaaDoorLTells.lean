/- DecayTells, walked. -/
import Derived.Test.YtfkehjmfmbodbaaDoorDb
namespace Go.Proofs.YtfkehjmfmbodbaaDoor
open Go.RowKit Go.Shelf Km Kx

set_option maxRecDepth 100000 in
set_option maxHeartbeats 1000000 in
theorem tells_walk (a0 a1 a2 a3 : Int) (a4 : Bool) (a5 a6 : Int) (w : World) (_w0 : (Lit.int .i64 a0).wf = true) (_w1 : (Lit.int .i64 a1).wf = true) (_w2 : (Lit.int .i64 a2).wf = true) (_w3 : (Lit.int .i64 a3).wf = true) (_w5 : (Lit.int .i64 a5).wf = true) (_w6 : (Lit.int .i64 a6).wf = true) (ht : DTab w) :
    Calls Tryd.prog 3 #[.int .i64 a0, .int .i64 a1, .int .i64 a2, .int .i64 a3, .bool a4, .int .i64 a5, .int .i64 a6] w fun e w' => e = .returned (.bool true) ∧ Below w.heap.size w w' := by
  have HB := Lib.hid (Bxs.start w)
  have HT := Lib.hid ht
  have K1 : Hid (∀ W, DTab W → Calls Tryd.prog 9 #[.int .i64 a0, .int .i64 a1, .int .i64 a2] W fun e w' => e = .returned (.tuple #[.int .i64 (Dm.decay a0 a1 a2).1, .int .i64 (Dm.decay a0 a1 a2).2]) ∧ Below W.heap.size W w') := Lib.hid (fun W h => Decay_any a0 a1 a2 W h)
  have K2 : Hid (∀ W, Calls Tryd.prog 10 #[.int .i64 a0, .int .i64 a1, .int .i64 a2] W fun e w' => e = .returned (.tuple #[.int .i64 (Dm.decay a0 a1 a2).1, .int .i64 (Dm.decay a0 a1 a2).2]) ∧ Below W.heap.size W w') := Lib.hid (fun W => RDecay_any a0 a1 a2 W)
  clear ht _w0 _w1 _w2 _w3 _w5 _w6
  generalize (Dm.decay a0 a1 a2).1 = x at *
  generalize (Dm.decay a0 a1 a2).2 = y at *
  go_enter Tryd.func3, Tryd.ntmps3
  go_wp2_with (first | (go_at_call 8; refine Calls.mono (head_any _ (HT.out.below HB.out.below (Nat.le_refl _))) ?_; rintro e w_ ⟨rfl, hb_⟩; replace HB := Lib.hid (HB.out.call hb_); clear hb_) | (go_at_call 9; refine Calls.mono (K1.out _ (HT.out.below HB.out.below (Nat.le_refl _))) ?_; rintro e w_ ⟨rfl, hb_⟩; replace HB := Lib.hid (HB.out.call hb_); clear hb_) | (go_at_call 10; refine Calls.mono (K2.out _) ?_; rintro e w_ ⟨rfl, hb_⟩; replace HB := Lib.hid (HB.out.call hb_); clear hb_) | (go_at_call 11; refine Calls.mono (Hit_b _ _ _) ?_; rintro e w_ ⟨rfl, hb_⟩; replace HB := Lib.hid (HB.out.call hb_); clear hb_) | (go_at_call 12; refine Calls.mono (RHit_b _ _ _) ?_; rintro e w_ ⟨rfl, hb_⟩; replace HB := Lib.hid (HB.out.call hb_); clear hb_) | (go_at_call 13; refine Calls.mono (Sup_b _ _ _ _ _) ?_; rintro e w_ ⟨rfl, hb_⟩; replace HB := Lib.hid (HB.out.call hb_); clear hb_) | (go_at_call 14; refine Calls.mono (RSup_b _ _ _ _ _) ?_; rintro e w_ ⟨rfl, hb_⟩; replace HB := Lib.hid (HB.out.call hb_); clear hb_))
  go_ret
  exact ⟨rfl, HB.out.below⟩
end Go.Proofs.YtfkehjmfmbodbaaDoor
