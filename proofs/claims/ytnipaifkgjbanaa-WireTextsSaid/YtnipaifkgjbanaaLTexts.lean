import Derived.Test.YtnipaifkgjbanaaW11
namespace Go.Proofs.Ytnipaifkgjbanaa
open Go.RowKit Go.Shelf

theorem u8s_set (ys : List Int) (k : Nat) (y : Int) : (u8s ys).set k (.int .u8 y) = u8s (ys.set k y) := by simp [u8s, List.map_set]

theorem own_view_rd {w : World} {base n cap : Nat} {e : TypeId} {A : Option Addr} {xs : List Value} (h : w.ownsRow base e 1 (.slice A n cap) n xs) : Rd w w.heap.size A xs := Rd.of_own h

set_option maxRecDepth 100000 in
set_option maxHeartbeats 4000000 in
theorem texts_walk (a0 : Option Addr) (len0 cap0 : Nat) (z0 : List Int) (a1 : Option Addr) (len1 cap1 : Nat) (z1 : List Int) (a2 : Int) (w : World) (w0 : RowOf .u8 w a0 len0 cap0 z0) (w1 : RowOf .u8 w a1 len1 cap1 z1) (w2 : (Lit.int .i64 a2).wf = true)
    (_s0 : cap0 * 1 ≤ 140737488351232) (s1 : cap1 * 1 ≤ 140737488351232) :
    Calls Try.prog 4 #[.slice a0 len0 cap0, .slice a1 len1 cap1, .int .i64 a2] w fun e w' => e = .returned (.bool true) ∧ Below w.heap.size w w' := by
  have b2 := wf_i64 w2
  obtain ⟨xs, hn1, hc1, hm1, hr1, hw1⟩ := row_rd w0
  obtain ⟨ys, hn2, hc2, hm2, hr2, hw2⟩ := row_rd w1
  have HY := Lib.hid (wf_u8 hw2)
  clear w0 w1 w2 hw1 hw2
  obtain ⟨i0, hi, hz0, hz1, hz2⟩ := info_parts info_u8
  generalize hpt : Wm.ptextE xs = pt
  obtain ⟨pl, pe⟩ := pt
  have HPT := Lib.hid hpt
  generalize hrt : Wm.rtext ys a2 = rt
  obtain ⟨rl, rk, re⟩ := rt
  have HRT := Lib.hid hrt
  clear hpt hrt
  go_enter Try.func4, Try.ntmps4
  go_wp2_with (first | (go_at_call 11; refine (head_any _).mono ?_; rintro e w1 ⟨rfl, hb1⟩; have hmade := World.ownsRow_made (base := w1.heap.size) (e := 5) (size := 1) w1 #[] 0 (Nat.le_refl _) (by unfold maxLen; omega) (by simp)) | (at_builtin; refine wpList_app rfl _ _ 22 rfl w1.heap.size 5 i0 (.int .u8 0) 1 Try.underlying22 hi hz0 hz1 hz2 rfl _ _ _ rfl hmade w.heap.size a1 len1 cap1 (u8s ys) rfl (by rw [List.length_map]; exact hn2) ((hr2.below hb1).alloc hb1.size _) (oneCell_ints _ _) (by unfold maxLen; omega) (by omega) (by simp) ?_; intro vo w2 hown' hgrow _) | (go_at_call 16; fail))
  have hb2' := below_app ((Below.refl w1.heap.size w1).alloc (Nat.le_refl _) _) hmade hgrow (by simp)
  have hx2 := (hr1.below hb1).below (hb2'.mono hb1.size)
  have hy2 := (hr2.below hb1).below (hb2'.mono hb1.size)
  have hs2 := Nat.le_trans hb1.size hb2'.size
  rw [Nat.zero_add, List.nil_append] at hown'
  obtain ⟨A6, cap6, rfl, hcp6, hcm6, hrd6⟩ := own_view hown'
  have HO := Lib.hid hown'
  clear hgrow hown' hmade hr1 hr2
  refine (PutText_all a0 len0 cap0 w.heap.size xs _ (by exact hx2) hn1 hs2).mono ?_
  rw [HPT.out]
  rintro e w3 ⟨va, rfl, hoa, hb3⟩
  go_wp2_with fail
  refine (RPutText_all a0 len0 cap0 w.heap.size xs _ (by exact hx2.below (hb3.mono hs2)) hn1 (Nat.le_trans hs2 hb3.size)).mono ?_
  rw [HPT.out]
  rintro e w4 ⟨vc, rfl, hoc, hb4⟩
  have hb24 := hb3.trans (hb4.mono hb3.size)
  go_wp2_with fail
  refine (Text_any A6 len1 cap6 w2.heap.size ys a2 _ (by exact hrd6.below hb24) hn2 hcp6 hcm6 hb24.size HY.out b2.1 b2.2).mono ?_
  rw [HRT.out]
  rintro e w5 ⟨vx, rfl, hox, hb5⟩
  have hb25 := hb24.trans (hb5.mono hb24.size)
  go_wp2_with fail
  refine (RText_any a1 len1 cap1 w.heap.size ys a2 _ (by exact hy2.below (hb25.mono hs2)) hn2 hc2 hm2 (Nat.le_trans hs2 hb25.size) HY.out b2.1 b2.2).mono ?_
  rw [HRT.out]
  rintro e w6 ⟨vy, rfl, hoy, hb6⟩
  have hb26 := hb25.trans (hb6.mono hb25.size)
  have hb56 := hb5.trans (hb6.mono hb5.size)
  have hb46 := hb4.trans (hb56.mono hb4.size)
  have KA : w6.ownsRow w2.heap.size 5 1 va pl.length (u8s pl) := own_mono (own_below hoa (hb46.mono (Nat.le_refl _)) (Nat.le_refl _)) (Nat.le_refl _)
  have KC : w6.ownsRow w2.heap.size 5 1 vc pl.length (u8s pl) := own_mono (own_below hoc hb56 (Nat.le_refl _)) hb3.size
  have KX : w6.ownsRow w2.heap.size 5 1 vx rl.length (u8s rl) := own_mono (own_below hox hb6 (Nat.le_refl _)) hb24.size
  have KY : w6.ownsRow w2.heap.size 5 1 vy rl.length (u8s rl) := own_mono hoy hb25.size
  have KO : w6.ownsRow w1.heap.size 5 1 (.slice A6 len1 cap6) len1 (u8s ys) := own_below HO.out hb26 (Nat.le_refl _)
  have KB := hb2'.trans (hb26.mono hb2'.size)
  have HG : Hid (∀ g, A6 = some ⟨g, 0, none⟩ → g < w2.heap.size) := fun g e => (HO.out.lt g (by rw [e]; rfl)).2
  obtain ⟨Aa, ca, rfl, -, -, -⟩ := own_view KA
  obtain ⟨Ac, cc, rfl, -, -, -⟩ := own_view KC
  obtain ⟨Ax, cx, rfl, -, -, -⟩ := own_view KX
  obtain ⟨Ay, cy, rfl, -, -, -⟩ := own_view KY
  have HKA := Lib.hid KA
  have HKC := Lib.hid KC
  have HKX := Lib.hid KX
  have HKY := Lib.hid KY
  have HKB := Lib.hid KB
  have HB1 := Lib.hid hb1
  have hsz1 := hb1.size
  have hcm6' := hcm6
  unfold maxLen at hcm6'
  clear hb2' hx2 hy2 hrd6 HO hoa hb3 hoc hb4 hb24 hox hb5 hb25 hoy hb6 hb26 hb56 hb46 KA KC KX KY KB hb1 HPT HRT
  go_wp2_with fail
  go_loopw [19] (fun ix wr => ∃ (k : Nat) (us : List Int), ix = .int .i64 (k : Int) ∧ k ≤ len1 ∧ us.length = len1 ∧ wr.ownsRow w1.heap.size 5 1 (.slice A6 len1 cap6) len1 (u8s us) ∧
      Hid (wr.ownsRow w2.heap.size 5 1 (.slice Aa pl.length ca) pl.length (u8s pl) ∧ wr.ownsRow w2.heap.size 5 1 (.slice Ac pl.length cc) pl.length (u8s pl) ∧ wr.ownsRow w2.heap.size 5 1 (.slice Ax rl.length cx) rl.length (u8s rl) ∧ wr.ownsRow w2.heap.size 5 1 (.slice Ay rl.length cy) rl.length (u8s rl) ∧ Below w1.heap.size w1 wr))
    (fun ix _ => len1 - (intOf ix).toNat)
  case atStart => exact ⟨0, ys, rfl, by omega, hn2, KO, HKA.out, HKC.out, HKX.out, HKY.out, HKB.out⟩
  case round =>
    obtain ⟨k, us, rfl, hk, hul, hown, HK⟩ := hrel
    by_cases hlt : k < len1
    · obtain ⟨g, cap', hv, hge, hgl⟩ := hown.form (by omega)
      obtain rfl : A6 = some ⟨g, 0, none⟩ := by injection hv
      have hg2 := HG.out g rfl
      obtain ⟨y, hy⟩ : ∃ y, us[k]? = some y := ⟨us[k], List.getElem?_eq_getElem (by omega)⟩
      have hcl : wr.cell? ⟨g, k, none⟩ = some (.int .u8 y) := by rw [hown.cellAt k (by omega), List.getElem?_map, hy]; rfl
      have hfz := hown.frozenAt k
      have hst := hown.stored k (.int .u8 ((y + 1) % 256))
      rw [u8s_set] at hst
      obtain ⟨kA, kC, kX, kY, kB⟩ := HK.out
      have HS := Lib.hid hst.1
      have HK2 := Lib.hid (And.intro (ownsRow_setCell_below kA (a := ⟨g, k, none⟩) hg2 (.int .u8 ((y + 1) % 256))) (And.intro (ownsRow_setCell_below kC (a := ⟨g, k, none⟩) hg2 (.int .u8 ((y + 1) % 256))) (And.intro (ownsRow_setCell_below kX (a := ⟨g, k, none⟩) hg2 (.int .u8 ((y + 1) % 256))) (And.intro (ownsRow_setCell_below kY (a := ⟨g, k, none⟩) hg2 (.int .u8 ((y + 1) % 256))) (kB.setCell (p := ⟨g, k, none⟩) hge (.int .u8 ((y + 1) % 256)))))))
      have HUL : Hid ((us.set k ((y + 1) % 256)).length = len1) := by
        show _ = _
        rw [List.length_set]; exact hul
      clear kA kC kX kY kB HK hst hown hv hy hul
      go_wp2
      go_roundw
      case rel => exact ⟨k + 1, _, by go_num, by omega, HUL.out, HS.out, HK2⟩
      case measure => simp [intOf]; omega
    · obtain ⟨kA, kC, kX, kY, kB⟩ := HK.out
      have c1 := str_of (cap := ca) (own_view_rd kA) rfl
      have c2 := str_of (cap := cc) (own_view_rd kC) rfl
      have c3 := str_of (cap := cx) (own_view_rd kX) rfl
      have c4 := str_of (cap := cy) (own_view_rd kY) rfl
      have HB := Lib.hid (HB1.out.trans (kB.mono hsz1))
      clear kA kC kX kY kB HK
      go_wp2
      go_ret
      exact ⟨rfl, HB.out⟩
end Go.Proofs.Ytnipaifkgjbanaa
