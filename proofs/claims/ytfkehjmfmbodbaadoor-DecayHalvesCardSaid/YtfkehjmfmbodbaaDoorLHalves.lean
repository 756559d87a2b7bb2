/- DecayHalves, walked. -/
import Derived.Test.YtfkehjmfmbodbaaDoorDb
namespace Go.Proofs.YtfkehjmfmbodbaaDoor
open Go.RowKit Go.Shelf Km Kx

theorem more20' {q : Nat} (h : 20 < q) : decide ((20 : Int) < (q : Int)) = true := (more20 h).1
theorem less20' {q : Nat} (h : ¬ 20 < q) : decide ((20 : Int) < (q : Int)) = false := (less20 h).1
set_option maxRecDepth 100000 in
set_option maxHeartbeats 1000000 in
theorem halves_walk (a0 a1 a2 : Int) (w : World) (w0 : (Lit.int .u32 a0).wf = true) (w1 : (Lit.int .u16 a1).wf = true) (w2 : (Lit.int .u8 a2).wf = true) (ht : DTab w) :
    Calls Tryd.prog 7 #[.int .u32 a0, .int .u16 a1, .int .u8 a2] w fun e w' => e = .returned (.bool true) ∧ Below w.heap.size w w' := by
  have HB := Lib.hid (Bxs.start w)
  have HT := Lib.hid ht
  obtain ⟨p0, q0⟩ := wf_one (lo := 0) (hi := 4294967295) rfl rfl w0
  obtain ⟨p1, q1⟩ := wf_one (lo := 0) (hi := 65535) rfl rfl w1
  obtain ⟨p2, q2⟩ := wf_one (lo := 0) (hi := 255) rfl rfl w2
  clear ht w0 w1 w2
  obtain ⟨p, ep⟩ : ∃ p : Int, a0 % 1000001 = p := ⟨_, rfl⟩
  obtain ⟨h, eh⟩ : ∃ h : Int, 1 + a1 = h := ⟨_, rfl⟩
  obtain ⟨k, ek⟩ : ∃ k : Nat, a2 % 30 = (k : Int) := ⟨(a2 % 30).toNat, by omega⟩
  have hk : k < 30 := by omega
  have hm : h * (k : Int) ≤ 65536 * 30 := Dm.mul_mono (by omega) (by omega) (by omega) (by omega)
  have hm0 : 0 ≤ h * (k : Int) := Int.mul_nonneg (by omega) (by omega)
  obtain ⟨d, ed⟩ : ∃ d : Int, h * (k : Int) = d := ⟨_, rfl⟩
  rw [ed] at hm hm0
  have A1 : Dm.Ar p d h := ⟨⟨by omega, by omega⟩, ⟨by omega, by omega⟩, by omega, by omega⟩
  have hl := Dm.left_halves (pen := p) (half := h) (k := k) A1.2.2.1
  rw [ed] at hl
  have hp0 : 0 ≤ p := A1.1.1
  have K1 : Hid (∀ W, DTab W → Calls Tryd.prog 9 #[.int .i64 p, .int .i64 d, .int .i64 h] W fun e w' => e = .returned (.tuple #[.int .i64 (if 20 < k then 0 else Dm.halved p k), .int .i64 0]) ∧ Below W.heap.size W w') := Lib.hid (fun W hW => by
    have := Decay_any p d h W hW
    rw [Dm.decay_ok A1, hl] at this
    exact this)
  have hp9 : Hid (p ≤ 1000000) := A1.1.2
  clear A1 hl
  have e2 : wrap64 (h * (k : Int)) = d := by rw [ed]; exact IntWalk.wrap64_in _ (by omega)
  have e3 : wrap64 p = p := IntWalk.wrap64_in _ (by omega)
  have e4 : wrap64 (k : Int) = k := IntWalk.wrap64_in _ (by omega)
  have f1 : a0.tmod 1000001 = p := by rw [Int.tmod_eq_emod_of_nonneg p0]; exact ep
  have f2 : a2.tmod 30 = (k : Int) := by rw [Int.tmod_eq_emod_of_nonneg p2]; exact ek
  clear ed ep ek hm hm0
  subst eh
  by_cases h20 : 20 < k
  · have d6 := more20' h20
    rw [if_pos h20] at K1
    clear h20
    go_enter Tryd.func7, Tryd.ntmps7
    go_wp2_with (first | (go_at_call 8; refine Calls.mono (head_any _ (HT.out.below HB.out.below (Nat.le_refl _))) ?_; rintro e w_ ⟨rfl, hb_⟩; replace HB := Lib.hid (HB.out.call hb_); clear hb_) | (go_at_call 9; refine Calls.mono (K1.out _ (HT.out.below HB.out.below (Nat.le_refl _))) ?_; rintro e w_ ⟨rfl, hb_⟩; replace HB := Lib.hid (HB.out.call hb_); clear hb_))
    go_ret
    exact ⟨rfl, HB.out.below⟩
  · have d6 := less20' h20
    rw [if_neg h20] at K1
    clear h20
    obtain ⟨x, ex⟩ : ∃ x, Dm.halved p k = x := ⟨_, rfl⟩
    rw [ex] at K1
    have EX := Lib.hid ex
    clear ex
    go_enter Tryd.func7, Tryd.ntmps7
    go_wp2_with (first | (go_at_call 8; refine Calls.mono (head_any _ (HT.out.below HB.out.below (Nat.le_refl _))) ?_; rintro e w_ ⟨rfl, hb_⟩; replace HB := Lib.hid (HB.out.call hb_); clear hb_) | (go_at_call 9; refine Calls.mono (K1.out _ (HT.out.below HB.out.below (Nat.le_refl _))) ?_; rintro e w_ ⟨rfl, hb_⟩; replace HB := Lib.hid (HB.out.call hb_); clear hb_))
    go_loopg [8, 13] k (fun gh px ix wr => ∃ j : Nat, gh + j = k ∧ px = .int .i64 (Dm.halved p j) ∧ ix = .int .i64 (j : Int) ∧ Hid (Below w.heap.size w wr))
    case atStart => exact ⟨0, by omega, rfl, rfl, Lib.hid HB.out.below⟩
    case round =>
      clear HB
      obtain ⟨j, hj, rfl, rfl, HB⟩ := hrel
      have hx := Dm.halved_pos j hp0
      by_cases hlt : j < k
      · have d7 : (j : Int) < (k : Int) := by omega
        have HS := Lib.hid (Dm.halved_succ j p)
        have h9 := hp9.out
        generalize Dm.halved p j = y at *
        obtain ⟨x1, x2⟩ := hx
        obtain ⟨v, hv⟩ : ∃ v : Int, y / 2 = v := ⟨_, rfl⟩
        have hy1 : y.tdiv 2 = v := by rw [Int.tdiv_eq_ediv_of_nonneg x1]; exact hv
        have hy2 : wrap64 v = v := IntWalk.wrap64_in _ (by omega)
        rw [hv] at HS
        clear x1 x2 hv h9
        go_wp2_with fail
        go_roundg (gk - 1)
        case measure => omega
        case rel => exact ⟨j + 1, by omega, by rw [HS.out, hy2], by go_num, HB⟩
      · obtain rfl : j = k := by omega
        have d8 : decide ((j : Int) < (j : Int)) = false := by simp
        rw [EX.out] at hx ⊢
        go_wp2_with fail
        go_ret
        exact ⟨by simp, HB.out⟩
end Go.Proofs.YtfkehjmfmbodbaaDoor
