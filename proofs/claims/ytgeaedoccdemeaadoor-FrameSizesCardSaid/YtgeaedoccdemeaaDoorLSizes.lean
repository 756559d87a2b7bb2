/- FrameSizes, walked. -/
import Derived.Test.YtgeaedoccdemeaaDoorFh
namespace Go.Proofs.YtgeaedoccdemeaaDoor
open Go.RowKit Go.Shelf

set_option maxRecDepth 100000 in
set_option maxHeartbeats 4000000 in
theorem sizes_walk (a0 : Int) (a1 : Option Addr) (len1 cap1 : Nat) (z1 : List Int) (a2 : Int) (a3 : Option Addr) (len3 cap3 : Nat) (z3 : List Int) (w : World) (w0 : (Lit.int .u8 a0).wf = true) (w1 : RowOf .u8 w a1 len1 cap1 z1) (w2 : (Lit.int .u8 a2).wf = true) (w3 : RowOf .u8 w a3 len3 cap3 z3)
    (_s1 : cap1 * 1 ≤ 140737488351232) (_s3 : cap3 * 1 ≤ 140737488351232) (t0 : TabAt w) :
    Calls Tryd.prog 9 #[.int .u8 a0, .slice a1 len1 cap1, .int .u8 a2, .slice a3 len3 cap3] w fun e w' => e = .returned (.bool true) ∧ Below w.heap.size w w' := by
  have b0 := wf_u8' w0
  have b2 := wf_u8' w2
  obtain ⟨xs, hn, hc, hm, hr, hw⟩ := row_rd w1
  obtain ⟨ys, hn3, hc3, hm3, hr3, hw3⟩ := row_rd w3
  have HB := Lib.hid (wf_u8 hw)
  have HN := Lib.hid hn
  have HR := Lib.hid hr
  have HBy := Lib.hid (wf_u8 hw3)
  have HNy := Lib.hid hn3
  have HRy := Lib.hid hr3
  clear w0 w1 w2 w3 hw hn hr hw3 hn3 hr3
  go_enter Tryd.func9, Tryd.ntmps9
  go_wp2_with (go_at_call 10; refine (head_any _ t0.tab).mono ?_; rintro e w1 ⟨rfl, hb1⟩)
  refine (Put_any a0 a1 len1 cap1 w.heap.size xs w1 b0 (HR.out.below hb1) HN.out hc hm hb1.size HB.out (t0.tab.below hb1 (Nat.le_refl _))).mono ?_
  rintro e w2 ⟨v2, rfl, hown2, hb2⟩
  have hb12 := hb1.trans (hb2.mono hb1.size)
  have H2 := Lib.hid hown2
  clear hown2
  go_wp2_with fail
  refine (Put_any a2 a3 len3 cap3 w.heap.size ys w2 b2 (HRy.out.below hb12) HNy.out hc3 hm3 hb12.size HBy.out (t0.tab.below hb12 (Nat.le_refl _))).mono ?_
  rintro e w3 ⟨v3, rfl, hown3, hb3⟩
  have hb13 := hb12.trans (hb3.mono hb12.size)
  have hown2 := own_below H2.out hb3 (Nat.le_refl _)
  have r1 := str_of (cap := cap1) (HR.out.below hb13) HN.out
  have r3 := str_of (cap := cap3) (HRy.out.below hb13) HNy.out
  have HB3 := Lib.hid hb13
  clear H2 hb1 hb2 hb3 hb12 hb13
  by_cases l1 : xs.length ≤ 8192
  case neg =>
    rw [Fm.put_many (k := a0) (by omega)] at hown2 ⊢
    obtain ⟨A2, c2, rfl, -, -, -⟩ := own_view hown2
    clear hown2 r1 r3
    generalize Fm.put a2 ys = q
    clear hown3
    go_wp2_with fail
    go_ret
    exact ⟨rfl, HB3.out⟩
  by_cases l2 : ys.length ≤ 8192
  case neg =>
    rw [Fm.put_many (k := a2) (b := ys) (by omega)] at hown3 ⊢
    obtain ⟨A3, c3, rfl, -, -, -⟩ := own_view hown3
    rw [Fm.put_ok l1]
    clear hown2 r1 r3 hown3
    go_wp2_with fail
    go_ret
    exact ⟨rfl, HB3.out⟩
  rw [Fm.put_ok l1] at hown2 ⊢
  rw [Fm.put_ok l2] at hown3 ⊢
  dsimp only at hown2 hown3 ⊢
  have e1 := Fm.frm_len a0 xs
  have e2 := Fm.frm_len a2 ys
  have HI := Lib.hid (fun h => Fm.frm_inj (k := a0) (m := a2) (b := xs) (c := ys) l1 l2 h)
  have hs1 := str_beq (Fm.frm_by b0 HB.out l1) (Fm.frm_by b2 HBy.out l2)
  have hs2 := str_beq HB.out HBy.out
  have g0 : (u8s (Fm.frm a0 xs))[0]? = some (.int .u8 247) := rfl
  have g1 : (u8s (Fm.frm a0 xs))[1]? = some (.int .u8 a0) := rfl
  have HE : Hid (a0 = a2 → xs = ys → Fm.frm a0 xs = Fm.frm a2 ys) := fun h1 h2 => by rw [h1, h2]
  generalize Fm.frm a0 xs = L1 at *
  generalize Fm.frm a2 ys = L2 at *
  rw [HN.out] at e1
  rw [HNy.out] at e2
  rw [e1] at hown2
  rw [e2] at hown3
  obtain ⟨g, c2, rfl, hge, hgl⟩ := hown2.form (by omega)
  obtain ⟨A3, c3, rfl, -, -, hrd3⟩ := own_view hown3
  have hq0 : w3.cell? ⟨g, 0, none⟩ = some (.int .u8 247) := by rw [hown2.cellAt 0 (by omega), g0]
  have hq1 : w3.cell? ⟨g, 1, none⟩ = some (.int .u8 a0) := by rw [hown2.cellAt 1 (by omega), g1]
  have k1 := str_of (cap := c2) (Rd.of_own hown2) e1
  have k2 := str_of (cap := c3) hrd3 e2
  clear hown2 hown3 hrd3 g0 g1 e1 e2
  by_cases h1 : a0 = a2
  · have hd : decide (L1 = L2) = decide (xs = ys) := by
      rw [Bool.eq_iff_iff, decide_eq_true_iff, decide_eq_true_iff]
      exact ⟨fun h => (HI.out h).2, HE.out h1⟩
    rw [hd] at hs1
    subst h1
    clear hd
    generalize decide (xs = ys) = b at *
    go_wp2_with fail
    go_ret
    exact ⟨rfl, HB3.out⟩
  · have hd : decide (L1 = L2) = false := by
      rw [decide_eq_false_iff_not]
      exact fun h => h1 (HI.out h).1
    rw [hd] at hs1
    have hk : (a0 == a2) = false := by rw [beq_eq_false_iff_ne]; exact h1
    clear hd h1
    go_wp2_with fail
    go_ret
    exact ⟨rfl, HB3.out⟩
end Go.Proofs.YtgeaedoccdemeaaDoor
