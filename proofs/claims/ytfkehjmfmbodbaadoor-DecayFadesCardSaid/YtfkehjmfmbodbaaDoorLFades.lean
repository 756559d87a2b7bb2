/- DecayFades, walked. -/
import Derived.Test.YtfkehjmfmbodbaaDoorDb
namespace Go.Proofs.YtfkehjmfmbodbaaDoor
open Go.RowKit Go.Shelf Km Kx

theorem Dm.left_now {p h : Int} (hh : 1 ≤ h) : Dm.left p 0 h = p := by
  have := Dm.left_halves (pen := p) (half := h) (k := 0) hh
  rw [show h * ((0 : Nat) : Int) = 0 from Int.mul_zero h] at this
  rw [this]; rfl
theorem Dm.left_one {p h : Int} (hh : 1 ≤ h) : Dm.left p h h = p / 2 := by
  have := Dm.left_halves (pen := p) (half := h) (k := 1) hh
  rw [show h * ((1 : Nat) : Int) = h from Int.mul_one h] at this
  rw [this]; rfl

set_option maxRecDepth 100000 in
set_option maxHeartbeats 1000000 in
theorem fades_walk (a0 a1 a2 a3 a4 : Int) (w : World) (w0 : (Lit.int .u16 a0).wf = true) (w1 : (Lit.int .u16 a1).wf = true) (w2 : (Lit.int .u16 a2).wf = true) (w3 : (Lit.int .u16 a3).wf = true) (w4 : (Lit.int .u16 a4).wf = true) (ht : DTab w) :
    Calls Tryd.prog 4 #[.int .u16 a0, .int .u16 a1, .int .u16 a2, .int .u16 a3, .int .u16 a4] w fun e w' => e = .returned (.bool true) ∧ Below w.heap.size w w' := by
  have HB := Lib.hid (Bxs.start w)
  have HT := Lib.hid ht
  obtain ⟨p0, q0⟩ := wf_one (lo := 0) (hi := 65535) rfl rfl w0
  obtain ⟨p1, q1⟩ := wf_one (lo := 0) (hi := 65535) rfl rfl w1
  obtain ⟨p2, q2⟩ := wf_one (lo := 0) (hi := 65535) rfl rfl w2
  obtain ⟨p3, q3⟩ := wf_one (lo := 0) (hi := 65535) rfl rfl w3
  obtain ⟨p4, q4⟩ := wf_one (lo := 0) (hi := 65535) rfl rfl w4
  clear ht w0 w1 w2 w3 w4
  obtain ⟨h, eh⟩ : ∃ h : Int, a4 + 1 = h := ⟨_, rfl⟩
  obtain ⟨t, et⟩ : ∃ t : Int, a2 + a3 = t := ⟨_, rfl⟩
  obtain ⟨p, ep⟩ : ∃ p : Int, a0 + a1 = p := ⟨_, rfl⟩
  have A1 : Dm.Ar a0 a2 h := ⟨⟨by omega, by omega⟩, ⟨by omega, by omega⟩, by omega, by omega⟩
  have A2 : Dm.Ar a0 t h := ⟨⟨by omega, by omega⟩, ⟨by omega, by omega⟩, by omega, by omega⟩
  have A3 : Dm.Ar p a2 h := ⟨⟨by omega, by omega⟩, ⟨by omega, by omega⟩, by omega, by omega⟩
  have A4 : Dm.Ar a0 0 h := ⟨⟨by omega, by omega⟩, ⟨by omega, by omega⟩, by omega, by omega⟩
  have A5 : Dm.Ar a0 h h := ⟨⟨by omega, by omega⟩, ⟨by omega, by omega⟩, by omega, by omega⟩
  have v1 := Dm.left_time A1 (show a2 ≤ t by omega)
  have v2 := Dm.left_pen A1 (show a0 ≤ p by omega)
  have v3 := Dm.left_now (p := a0) A1.2.2.1
  have v4 := Dm.left_one (p := a0) A1.2.2.1
  have v5 := Dm.left_in A1
  have K : ∀ {p d v : Int}, Dm.Ar p d h → Dm.left p d h = v → Hid (∀ W, DTab W → Calls Tryd.prog 9 #[.int .i64 p, .int .i64 d, .int .i64 h] W fun e w' => e = .returned (.tuple #[.int .i64 v, .int .i64 0]) ∧ Below W.heap.size W w') := fun {p d v} hA hv => Lib.hid (fun W hW => by
    have := Decay_any p d h W hW
    rw [Dm.decay_ok hA] at this
    rw [← hv]; exact this)
  have K1 := K A1 rfl
  have K2 := K A2 rfl
  have K3 := K A3 rfl
  have K4 := K A4 v3
  have K5 := K A5 v4
  clear K v3 v4 A1 A2 A3 A4 A5
  generalize Dm.left a0 a2 h = x1 at *
  generalize Dm.left a0 t h = x2 at *
  generalize Dm.left p a2 h = x3 at *
  subst eh et ep
  obtain ⟨y, ey⟩ : ∃ y : Int, a0 / 2 = y := ⟨_, rfl⟩
  have f1 : a0.tdiv 2 = y := by rw [Int.tdiv_eq_ediv_of_nonneg p0]; exact ey
  have f2 : wrap64 y = y := IntWalk.wrap64_in _ (by omega)
  rw [ey] at K5
  have d1 : decide (x2 ≤ x1) = true := decide_eq_true v1
  have d2 : decide (x1 ≤ x3) = true := decide_eq_true v2
  have d3 : decide ((0 : Int) ≤ x1) = true := decide_eq_true v5.1
  obtain ⟨v6, v7⟩ := v5
  clear ey v7
  go_enter Tryd.func4, Tryd.ntmps4
  go_wp2_with (first | (go_at_call 8; refine Calls.mono (head_any _ (HT.out.below HB.out.below (Nat.le_refl _))) ?_; rintro e w_ ⟨rfl, hb_⟩; replace HB := Lib.hid (HB.out.call hb_); clear hb_) | (go_at_call 9; fail))
  refine (K1.out _ (HT.out.below HB.out.below (Nat.le_refl _))).mono ?_
  rintro e w_ ⟨rfl, hb_⟩; replace HB := Lib.hid (HB.out.call hb_); clear hb_
  go_wp2_with (go_at_call 9; fail)
  refine (K2.out _ (HT.out.below HB.out.below (Nat.le_refl _))).mono ?_
  rintro e w_ ⟨rfl, hb_⟩; replace HB := Lib.hid (HB.out.call hb_); clear hb_
  go_wp2_with (go_at_call 9; fail)
  refine (K3.out _ (HT.out.below HB.out.below (Nat.le_refl _))).mono ?_
  rintro e w_ ⟨rfl, hb_⟩; replace HB := Lib.hid (HB.out.call hb_); clear hb_
  go_wp2_with (go_at_call 9; fail)
  refine (K4.out _ (HT.out.below HB.out.below (Nat.le_refl _))).mono ?_
  rintro e w_ ⟨rfl, hb_⟩; replace HB := Lib.hid (HB.out.call hb_); clear hb_
  go_wp2_with (go_at_call 9; fail)
  refine (K5.out _ (HT.out.below HB.out.below (Nat.le_refl _))).mono ?_
  rintro e w_ ⟨rfl, hb_⟩; replace HB := Lib.hid (HB.out.call hb_); clear hb_
  go_wp2_with fail
  go_ret
  exact ⟨by simp [f2], HB.out.below⟩
end Go.Proofs.YtfkehjmfmbodbaaDoor
