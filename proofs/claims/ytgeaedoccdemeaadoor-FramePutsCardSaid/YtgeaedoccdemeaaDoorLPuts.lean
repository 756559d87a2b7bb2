/- FramePuts, walked. -/
import Derived.Test.YtgeaedoccdemeaaDoorFh
namespace Go.Proofs.YtgeaedoccdemeaaDoor
open Go.RowKit Go.Shelf

set_option maxRecDepth 100000 in
set_option maxHeartbeats 2000000 in
theorem puts_walk (a0 : Int) (a1 : Option Addr) (len1 cap1 : Nat) (z1 : List Int) (w : World) (w0 : (Lit.int .u8 a0).wf = true) (w1 : RowOf .u8 w a1 len1 cap1 z1) (_s1 : cap1 * 1 ≤ 140737488351232) (t0 : TabAt w) :
    Calls Tryd.prog 3 #[.int .u8 a0, .slice a1 len1 cap1] w fun e w' => e = .returned (.bool true) ∧ Below w.heap.size w w' := by
  have b0 := wf_u8' w0
  obtain ⟨xs, hn, hc, hm, hr, hw⟩ := row_rd w1
  have HB := Lib.hid (wf_u8 hw)
  have HN := Lib.hid hn
  have HR := Lib.hid hr
  clear w0 w1 hw hn hr
  go_enter Tryd.func3, Tryd.ntmps3
  go_wp2_with (go_at_call 10; refine (head_any _ t0.tab).mono ?_; rintro e w1 ⟨rfl, hb1⟩)
  refine (Put_any a0 a1 len1 cap1 w.heap.size xs w1 b0 (HR.out.below hb1) HN.out hc hm hb1.size HB.out (t0.tab.below hb1 (Nat.le_refl _))).mono ?_
  obtain ⟨q, hq⟩ : ∃ q, q = Fm.put a0 xs := ⟨_, rfl⟩
  rw [← hq]
  rintro e w2 ⟨v2, rfl, hown2, hb2⟩
  obtain ⟨A2, c2, rfl, -, -, hrd2⟩ := own_view hown2
  have hb12 := hb1.trans (hb2.mono hb1.size)
  have H2 := Lib.hid hrd2
  have HQ := Lib.hid hq
  clear hq hown2
  go_wp2_with fail
  refine (RPut_any a0 a1 len1 cap1 w.heap.size xs w2 b0 (HR.out.below hb12) HN.out hc hm hb12.size HB.out).mono ?_
  rw [← HQ.out]
  rintro e w3 ⟨v3, rfl, hown3, hb3⟩
  obtain ⟨A3, c3, rfl, -, -, hrd3⟩ := own_view hown3
  have HB3 := Lib.hid (hb12.trans (hb3.mono hb12.size))
  have k1 := str_of (cap := c2) (H2.out.below hb3) rfl
  have k2 := str_of (cap := c3) hrd3 rfl
  clear hrd2 hrd3 hown3 hb3 hb2 hb12 hb1
  go_wp2_with fail
  go_ret
  exact ⟨rfl, HB3.out⟩
end Go.Proofs.YtgeaedoccdemeaaDoor
