/- FrameSpoilt, walked. -/
import Derived.Test.YtgeaedoccdemeaaDoorFh
namespace Go.Proofs.YtgeaedoccdemeaaDoor
open Go.RowKit Go.Shelf

theorem get_spoilt {k : Int} {b : List Int} (hk : 0 ≤ k ∧ k ≤ 255) (hb : Fm.By b) (hl : b.length ≤ 8192) {i : Nat} (hi : i < b.length + 8) (h4 : i = 1 ∨ 4 ≤ i) {x y : Int} (hx : (Fm.frm k b)[i]? = some x) (hy : 0 ≤ y ∧ y ≤ 255) (h0 : y ≠ 0) :
    Fm.get ((Fm.frm k b).set i (bits .xor .u8 x y)) 0 = (0, [], 0, 33) := by
  have h := Fm.meas_spoilt hk hb hl hi h4 hy h0
  rw [getD_of hx] at h
  have h2 := Fm.get_err (b := (Fm.frm k b).set i (bits .xor .u8 x y)) (n := 0) (by omega) (by rw [List.drop_zero, h]; simp)
  rw [List.drop_zero, h] at h2
  exact h2

theorem set_back {l : List Int} {i : Nat} {x y : Int} (h : l[i]? = some x) : (l.set i y).set i x = l := by
  rw [List.set_set]
  obtain ⟨hi, rfl⟩ := List.getElem?_eq_some_iff.1 h
  exact List.set_getElem_self hi

set_option maxRecDepth 100000 in
set_option maxHeartbeats 4000000 in
theorem spoilt_walk (a0 : Int) (a1 : Option Addr) (len1 cap1 : Nat) (z1 : List Int) (a2 a3 : Int) (w : World) (w0 : (Lit.int .u8 a0).wf = true) (w1 : RowOf .u8 w a1 len1 cap1 z1) (w2 : (Lit.int .u16 a2).wf = true) (w3 : (Lit.int .u8 a3).wf = true)
    (_s1 : cap1 * 1 ≤ 140737488351232) (t0 : TabAt w) :
    Calls Tryd.prog 7 #[.int .u8 a0, .slice a1 len1 cap1, .int .u16 a2, .int .u8 a3] w fun e w' => e = .returned (.bool true) ∧ Below w.heap.size w w' := by
  have b0 := wf_u8' w0
  have b2 := wf_u16 w2
  have b3 := wf_u8' w3
  obtain ⟨xs, hn, hc, hm, hr, hw⟩ := row_rd w1
  have HB := Lib.hid (wf_u8 hw)
  have HN := Lib.hid hn
  have HR := Lib.hid hr
  clear w0 w1 w2 w3 hw hn hr
  go_enter Tryd.func7, Tryd.ntmps7
  go_wp2_with (go_at_call 10; refine (head_any _ t0.tab).mono ?_; rintro e w1 ⟨rfl, hb1⟩)
  refine (Put_any a0 a1 len1 cap1 w.heap.size xs w1 b0 (HR.out.below hb1) HN.out hc hm hb1.size HB.out (t0.tab.below hb1 (Nat.le_refl _))).mono ?_
  rintro e w2 ⟨v2, rfl, hown2, hb2⟩
  have HB12 := Lib.hid (hb1.trans (hb2.mono hb1.size))
  have HT2 := Lib.hid ((t0.tab.below hb1 (Nat.le_refl _)).below hb2 (Nat.le_refl _))
  have HS1 := Lib.hid hb1.size
  clear hb1 hb2
  by_cases l1 : xs.length ≤ 8192
  case neg =>
    rw [Fm.put_many (k := a0) (by omega)] at hown2 ⊢
    obtain ⟨A2, c2, rfl, -, -, -⟩ := own_view hown2
    clear hown2
    go_wp2_with fail
    go_ret
    exact ⟨rfl, HB12.out⟩
  rw [Fm.put_ok l1] at hown2 ⊢
  dsimp only at hown2 ⊢
  have e1 := Fm.frm_len a0 xs
  rw [HN.out] at e1
  have l2 : len1 ≤ 8192 := by rw [← HN.out]; exact l1
  have HFB := Lib.hid (Fm.frm_by b0 HB.out l1)
  have k8 : decide ((8 : Int) ≤ (len1 : Int) + 8) = true := by simp; omega
  have HE1 := Lib.hid e1
  rw [e1] at hown2
  obtain ⟨g, c2, rfl, hge, hgl⟩ := hown2.form (by omega)
  by_cases h0 : a3 = 0
  · subst h0
    clear hown2 e1
    go_wp2_with fail
    go_ret
    exact ⟨rfl, HB12.out⟩
  have k0 : (a3 == 0) = false := by rw [beq_eq_false_iff_ne]; exact h0
  obtain ⟨at', rfl⟩ := Int.eq_ofNat_of_zero_le b2.1
  obtain ⟨j, hj⟩ : ∃ j, j = at' % (len1 + 4) := ⟨_, rfl⟩
  have hjl : j < len1 + 4 := by rw [hj]; exact Nat.mod_lt at' (by omega)
  have hrem : ((at' : Int) % ((len1 : Int) + 8 - 4)) = (j : Int) := by
    rw [show ((len1 : Int) + 8 - 4) = ((len1 + 4 : Nat) : Int) from by omega, hj]; rfl
  obtain ⟨i, hi⟩ : ∃ i, i = 4 + j := ⟨_, rfl⟩
  have hil : i < len1 + 8 := by omega
  have hi4 : 4 ≤ i := by omega
  have k9 : decide ((len1 : Int) + 8 < 8) = false := by simp; omega
  obtain ⟨x, hx⟩ : ∃ x, (Fm.frm a0 xs)[i]? = some x := ⟨(Fm.frm a0 xs)[i]'(by rw [HE1.out]; exact hil), List.getElem?_eq_getElem _⟩
  have bx := HFB.out x (List.mem_of_getElem? hx)
  have hx1 : (Fm.frm a0 xs)[1]? = some a0 := rfl
  have G1 := Lib.hid (get_spoilt b0 HB.out l1 (i := i) (by rw [HN.out]; exact hil) (.inr hi4) hx b3 h0)
  have G2 := Lib.hid (get_spoilt b0 HB.out l1 (i := 1) (by omega) (.inl rfl) hx1 b3 h0)
  obtain ⟨y, hy⟩ : ∃ y, bits .xor .u8 x a3 = y := ⟨_, rfl⟩
  obtain ⟨z, hz⟩ : ∃ z, bits .xor .u8 a0 a3 = z := ⟨_, rfl⟩
  have y1 : 0 ≤ y ∧ y ≤ 255 := by rw [← hy]; exact (Cm.b8_xor bx b3).2
  have z1' : 0 ≤ z ∧ z ≤ 255 := by rw [← hz]; exact (Cm.b8_xor b0 b3).2
  have back := Fm.xor_back bx b3
  rw [hy] at back G1
  rw [hz] at G2
  generalize hL : Fm.frm a0 xs = L at *
  have hcl : w2.cell? ⟨g, i, none⟩ = some (.int .u8 x) := by rw [hown2.cellAt i (by omega), List.getElem?_map, hx]; rfl
  have hfz := hown2.frozenAt i
  have hst := hown2.stored i (.int .u8 y)
  rw [u8s_set] at hst
  have HST := Lib.hid hst.1
  have HBA := Lib.hid ((Below.refl w1.heap.size w2).setCell (p := ⟨g, i, none⟩) hge (.int .u8 y))
  have HX := Lib.hid hx
  have HX1 := Lib.hid hx1
  subst hi
  clear hst hown2 hx hx1 hj hL e1
  go_wp2_with (go_at_call 13; fail)
  generalize w2.setCell ⟨g, 4 + j, none⟩ (.int .u8 y) = w3 at HST HBA ⊢
  have hcp : len1 + 8 ≤ c2 := own_cap HST.out
  have hcm := own_capMax HST.out
  have HW3 := Lib.hid (HB12.out.trans (HBA.out.mono HS1.out))
  refine (Get_any (some ⟨g, 0, none⟩) (len1 + 8) c2 w3.heap.size (L.set (4 + j) y) 0 w3 (Rd.of_own HST.out) (by rw [List.length_set]; exact HE1.out) hcp hcm (Nat.le_refl _) (HFB.out.set _ y1) (t0.tab.below HW3.out (Nat.le_refl _)) (by omega) (by omega)).mono ?_
  rw [G1.out]
  dsimp only
  rintro e w4 ⟨v4, rfl, -, hb4⟩
  have hown4 := own_below HST.out hb4 (Nat.le_refl _)
  have HW4 := Lib.hid (HW3.out.trans (hb4.mono HW3.out.size))
  have hcl : w4.cell? ⟨g, 4 + j, none⟩ = some (.int .u8 y) := by rw [hown4.cellAt _ (by omega), List.getElem?_map, List.getElem?_set_self (by rw [HE1.out]; omega)]; rfl
  have hfz := hown4.frozenAt (4 + j)
  have hst5 := hown4.stored (4 + j) (.int .u8 x)
  rw [u8s_set, set_back HX.out] at hst5
  have hcl1 : (w4.setCell ⟨g, 4 + j, none⟩ (.int .u8 x)).cell? ⟨g, 1, none⟩ = some (.int .u8 a0) := by rw [hst5.1.cellAt 1 (by omega), List.getElem?_map, HX1.out]; rfl
  have hfz1 := hst5.1.frozenAt 1
  have hst6 := hst5.1.stored 1 (.int .u8 z)
  rw [u8s_set] at hst6
  have HST6 := Lib.hid hst6.1
  have HW6 := Lib.hid ((HW4.out.setCell (p := ⟨g, 4 + j, none⟩) (Nat.le_trans HS1.out hge) (.int .u8 x)).setCell (p := ⟨g, 1, none⟩) (Nat.le_trans HS1.out hge) (.int .u8 z))
  clear hst5 hst6 hown4 hb4 HW4 HST HBA HW3
  go_wp2_with (go_at_call 13; fail)
  generalize (w4.setCell ⟨g, 4 + j, none⟩ (.int .u8 x)).setCell ⟨g, 1, none⟩ (.int .u8 z) = w6 at HST6 HW6 ⊢
  refine (Get_any (some ⟨g, 0, none⟩) (len1 + 8) c2 w6.heap.size (L.set 1 z) 0 w6 (Rd.of_own HST6.out) (by rw [List.length_set]; exact HE1.out) hcp hcm (Nat.le_refl _) (HFB.out.set _ z1') (t0.tab.below HW6.out (Nat.le_refl _)) (by omega) (by omega)).mono ?_
  rw [G2.out]
  dsimp only
  rintro e w7 ⟨v7, rfl, -, hb7⟩
  have HW7 := Lib.hid (HW6.out.trans (hb7.mono HW6.out.size))
  clear hcl hfz hcl1 hfz1 hb7 HST6 HW6
  go_wp2_with fail
  go_ret
  exact ⟨rfl, HW7.out⟩
end Go.Proofs.YtgeaedoccdemeaaDoor
