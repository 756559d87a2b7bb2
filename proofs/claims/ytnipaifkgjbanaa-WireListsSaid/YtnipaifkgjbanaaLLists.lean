import Derived.Test.YtnipaifkgjbanaaW14
namespace Go.Proofs.Ytnipaifkgjbanaa
open Go.RowKit Go.Shelf

set_option maxRecDepth 100000 in
set_option maxHeartbeats 4000000 in
theorem lists_walk (a0 : Option Addr) (len0 cap0 : Nat) (z0 : List Int) (a1 : Option Addr) (len1 cap1 : Nat) (z1 : List Int) (a2 : Int) (w : World) (w0 : RowOf .i64 w a0 len0 cap0 z0) (w1 : RowOf .u8 w a1 len1 cap1 z1) (w2 : (Lit.int .i64 a2).wf = true) :
    Calls Try.prog 5 #[.slice a0 len0 cap0, .slice a1 len1 cap1, .int .i64 a2] w fun e w' => e = .returned (.bool true) ∧ Below w.heap.size w w' := by
  have b2 := wf_i64 w2
  obtain ⟨xs, hn1, hc1, hm1, hr1, hw1⟩ := row_rd w0
  obtain ⟨ys, hn2, hc2, hm2, hr2, hw2⟩ := row_rd w1
  have HX : Hid (Wm.Fits xs) := fun n hn => wf_i64 (hw1 n hn)
  have HY := Lib.hid (wf_u8 hw2)
  clear w0 w1 w2 hw1 hw2
  generalize hpt : Wm.pintsE xs = pt
  obtain ⟨pl, pe⟩ := pt
  have HPT := Lib.hid hpt
  generalize hrt : Wm.rints ys a2 = rt
  obtain ⟨rl, rk, re⟩ := rt
  have HRT := Lib.hid hrt
  clear hpt hrt
  go_enter Try.func5, Try.ntmps5
  go_wp2_with (first | (go_at_call 11; refine (head_any _).mono ?_; rintro e w1 ⟨rfl, hb1⟩) | (go_at_call 20; fail))
  refine (PutInts_all a0 len0 cap0 w.heap.size xs _ (by exact hr1.below hb1) hn1 HX.out hb1.size).mono ?_
  rw [HPT.out]
  rintro e w3 ⟨va, rfl, hoa, hb3⟩
  have hb13 := hb1.trans (hb3.mono hb1.size)
  go_wp2_with fail
  refine (RPutInts_all a0 len0 cap0 w.heap.size xs _ (by exact hr1.below hb13) hn1 HX.out hb13.size).mono ?_
  rw [HPT.out]
  rintro e w4 ⟨vc, rfl, hoc, hb4⟩
  have hb14 := hb13.trans (hb4.mono hb13.size)
  go_wp2_with fail
  refine (Ints_any a1 len1 cap1 w.heap.size ys a2 _ (by exact hr2.below hb14) hn2 hc2 hm2 hb14.size HY.out b2.1 b2.2).mono ?_
  rw [HRT.out]
  rintro e w5 ⟨vx, rfl, hox, hb5⟩
  have hb15 := hb14.trans (hb5.mono hb14.size)
  go_wp2_with fail
  refine (RInts_any a1 len1 cap1 w.heap.size ys a2 _ (by exact hr2.below hb15) hn2 hc2 hm2 hb15.size HY.out b2.1 b2.2).mono ?_
  rw [HRT.out]
  rintro e w6 ⟨vy, rfl, hoy, hb6⟩
  have HBB := Lib.hid (hb15.trans (hb6.mono hb15.size))
  have hb56 := hb5.trans (hb6.mono hb5.size)
  have hb46 := hb4.trans (hb56.mono hb4.size)
  obtain ⟨Aa, ca, rfl, -, -, ra⟩ := own_view (own_below hoa hb46 (Nat.le_refl _))
  obtain ⟨Ac, cc, rfl, -, -, rc⟩ := own_view (own_below hoc hb56 (Nat.le_refl _))
  obtain ⟨Ax, cx, rfl, -, hcx, rx⟩ := own_view (own_below hox hb6 (Nat.le_refl _))
  obtain ⟨Ay, cy, rfl, -, -, ry⟩ := own_view hoy
  have c1 := str_of (cap := ca) ra rfl
  have c2 := str_of (cap := cc) rc rfl
  have hlx : rl.length ≤ maxLen := by
    have h := hox.2
    rcases h with ⟨h, h0⟩ | ⟨g, cap', cur, _, _, _, h1, h2, _⟩
    · omega
    · omega
  have HS := Lib.hid (Same_any Ax Ay rl.length rl.length cx cy _ _ rl rl w6 rx ry rfl rfl hlx)
  clear hoa hb3 hoc hb4 hb13 hb14 hox hb5 hb15 hoy hb6 hb56 hb46 ra rc rx ry hr1 hr2 hb1 HPT HRT hcx hlx
  go_wp2_with (go_at_call 24; refine HS.out.mono ?_; rintro e w7 ⟨rfl, nd, rfl⟩)
  go_ret
  exact ⟨by simp, below_drawn HBB.out _⟩
end Go.Proofs.Ytnipaifkgjbanaa
