/- DecaySup, walked. -/
import Derived.Test.YtfkehjmfmbodbaaDoorDb
namespace Go.Proofs.YtfkehjmfmbodbaaDoor
open Go.RowKit Go.Shelf Km Kx

set_option maxRecDepth 100000 in
set_option maxHeartbeats 1000000 in
theorem sup_walk (a0 : Bool) (a1 a2 a3 : Int) (w : World) (w1 : (Lit.int .u16 a1).wf = true) (w2 : (Lit.int .u16 a2).wf = true) (w3 : (Lit.int .u16 a3).wf = true) (ht : DTab w) :
    Calls Tryd.prog 5 #[.bool a0, .int .u16 a1, .int .u16 a2, .int .u16 a3] w fun e w' => e = .returned (.bool true) ∧ Below w.heap.size w w' := by
  have HB := Lib.hid (Bxs.start w)
  have HT := Lib.hid ht
  obtain ⟨p1, q1⟩ := wf_one (lo := 0) (hi := 65535) rfl rfl w1
  obtain ⟨p2, q2⟩ := wf_one (lo := 0) (hi := 65535) rfl rfl w2
  obtain ⟨p3, q3⟩ := wf_one (lo := 0) (hi := 65535) rfl rfl w3
  clear ht w1 w2 w3
  by_cases h1 : a2 ≤ a1
  · have e : Dm.sup a0 a1 a2 a3 = true := if_pos h1
    have d1 : decide (a2 ≤ a1) = true := decide_eq_true h1
    go_enter Tryd.func5, Tryd.ntmps5
    go_wp2_with (first | (go_at_call 8; refine Calls.mono (head_any _ (HT.out.below HB.out.below (Nat.le_refl _))) ?_; rintro e w_ ⟨rfl, hb_⟩; replace HB := Lib.hid (HB.out.call hb_); clear hb_) | (go_at_call 13; refine Calls.mono (Sup_b _ _ _ _ _) ?_; rintro e w_ ⟨rfl, hb_⟩; replace HB := Lib.hid (HB.out.call hb_); clear hb_))
    go_ret
    exact ⟨rfl, HB.out.below⟩
  · have d1 : decide (a2 ≤ a1) = false := decide_eq_false h1
    by_cases h2 : a1 ≤ a3
    · have e : Dm.sup a0 a1 a2 a3 = false := by unfold Dm.sup; rw [if_neg h1, if_pos h2]
      have d2 : decide (a1 ≤ a3) = true := decide_eq_true h2
      go_enter Tryd.func5, Tryd.ntmps5
      go_wp2_with (first | (go_at_call 8; refine Calls.mono (head_any _ (HT.out.below HB.out.below (Nat.le_refl _))) ?_; rintro e w_ ⟨rfl, hb_⟩; replace HB := Lib.hid (HB.out.call hb_); clear hb_) | (go_at_call 13; refine Calls.mono (Sup_b _ _ _ _ _) ?_; rintro e w_ ⟨rfl, hb_⟩; replace HB := Lib.hid (HB.out.call hb_); clear hb_))
      go_ret
      exact ⟨rfl, HB.out.below⟩
    · have e : Dm.sup a0 a1 a2 a3 = a0 := by unfold Dm.sup; rw [if_neg h1, if_neg h2]
      have d2 : decide (a1 ≤ a3) = false := decide_eq_false h2
      go_enter Tryd.func5, Tryd.ntmps5
      go_wp2_with (first | (go_at_call 8; refine Calls.mono (head_any _ (HT.out.below HB.out.below (Nat.le_refl _))) ?_; rintro e w_ ⟨rfl, hb_⟩; replace HB := Lib.hid (HB.out.call hb_); clear hb_) | (go_at_call 13; refine Calls.mono (Sup_b _ _ _ _ _) ?_; rintro e w_ ⟨rfl, hb_⟩; replace HB := Lib.hid (HB.out.call hb_); clear hb_))
      go_ret
      exact ⟨by simp, HB.out.below⟩
end Go.Proofs.YtfkehjmfmbodbaaDoor
