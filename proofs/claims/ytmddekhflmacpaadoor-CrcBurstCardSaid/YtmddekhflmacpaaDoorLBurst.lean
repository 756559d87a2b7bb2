import Derived.Test.YtmddekhflmacpaaDoorLByte
import Derived.Test.YtmddekhflmacpaaDoorCb
import Derived.RegionTactic
import Derived.ChangeAlike
import Derived.BigRegion
namespace Go.Proofs.YtmddekhflmacpaaDoor
open Go.RowKit Go.Shelf

set_option maxRecDepth 100000 in
set_option maxHeartbeats 4000000 in
theorem burst_walk (a0 : Option Addr) (len0 cap0 : Nat) (z0 : List Int) (a1 a2 : Int) (w : World) (w0 : RowOf .u8 w a0 len0 cap0 z0) (w1 : (Lit.int .u16 a1).wf = true) (w2 : (Lit.int .u32 a2).wf = true)
    (_s0 : cap0 * 1 ≤ 140737488351232) (t0 : TabAt w) :
    Calls Tryd.prog 7 #[.slice a0 len0 cap0, .int .u16 a1, .int .u32 a2] w fun e w' => e = .returned (.bool true) ∧ Below w.heap.size w w' := by
  obtain ⟨xs, hn, hc, hm, hr, hw⟩ := row_rd w0
  have b1 := wf_u16 w1
  have b2 := wf_u32 w2
  have HB := Lib.hid (wf_u8 hw)
  have HN := Lib.hid hn
  have hml : len0 ≤ maxLen := by omega
  have hml' := hml
  unfold maxLen at hml'
  clear w0 w1 w2 hw hn
  by_cases hz : len0 < 4
  · have h0 : ((len0 : Int) < 4) := by omega
    go_enter Tryd.func7, Tryd.ntmps7
    go_wp2_with (go_at_call 9; refine (head_any _ t0.tab).mono ?_; rintro e w1 ⟨rfl, hb1⟩)
    go_ret
    exact ⟨rfl, hb1⟩
  have h0 : ¬ ((len0 : Int) < 4) := by omega
  have h0d : decide ((len0 : Int) < 4) = false := by simpa using h0
  by_cases hy : a2 = 0
  · subst hy
    go_enter Tryd.func7, Tryd.ntmps7
    go_wp2_with (go_at_call 9; refine (head_any _ t0.tab).mono ?_; rintro e w1 ⟨rfl, hb1⟩)
    go_ret
    exact ⟨rfl, hb1⟩
  have h1 : (a2 == 0) = false := by rw [beq_eq_false_iff_ne]; exact hy
  obtain ⟨v, rfl, -⟩ := Cm.V_of b2.1 b2.2
  have hv0 : v ≠ 0#32 := fun e => hy (by rw [e]; rfl)
  obtain ⟨at', rfl⟩ := Int.eq_ofNat_of_zero_le b1.1
  obtain ⟨i, hi⟩ : ∃ i, i = at' % (len0 - 3) := ⟨_, rfl⟩
  have hil : i + 3 < len0 := by
    have := Nat.mod_lt at' (show 0 < len0 - 3 by omega)
    omega
  have hrem : ((at' : Int) % ((len0 : Int) - 3)) = (i : Int) := by rw [hi, show (len0 : Int) - 3 = ((len0 - 3 : Nat) : Int) by omega]; rfl
  obtain ⟨p, hp⟩ : ∃ p, p = Cm.crc 0#32 (Cm.bur xs i v 4) := ⟨_, rfl⟩
  obtain ⟨q, hq⟩ : ∃ q, q = Cm.crc 0#32 xs := ⟨_, rfl⟩
  have hne := v_ne (p := p) (q := q) (by rw [hp, hq]; exact Cm.crc_burst (by rw [HN.out]; exact hil) HB.out hv0 0#32)
  have HP := Lib.hid hp
  have HQ := Lib.hid hq
  obtain ⟨i0, hi0, hz0, hz1, hz2⟩ := info_parts info_u8
  clear hi hp hq hy hz
  go_enter Tryd.func7, Tryd.ntmps7
  go_wp2_with (first
    | (go_at_call 9; refine (head_any _ t0.tab).mono ?_; rintro e w1 ⟨rfl, hb1⟩; have ht1 := t0.tab.below hb1 (Nat.le_refl _); have hmade := World.ownsRow_made (base := w1.heap.size) (e := 5) (size := 1) w1 #[] 0 (Nat.le_refl _) (by unfold maxLen; omega) (by simp))
    | (at_builtin; refine wpList_app rfl _ _ 23 rfl w1.heap.size 5 i0 (.int .u8 0) 1 Tryd.underlying23 hi0 hz0 hz1 hz2 rfl _ _ _ rfl hmade w.heap.size a0 len0 cap0 (u8s xs) rfl (by rw [List.length_map]; exact HN.out) ((hr.below hb1).alloc hb1.size _) (oneCell_ints _ _) (by unfold maxLen; omega) (by omega) (by simp) ?_; intro v2 w2 hown2 hgrow2 _; have hb2 := below_app ((Below.refl w1.heap.size w1).alloc (Nat.le_refl _) _) hmade hgrow2 (by simp); rw [Nat.zero_add, List.nil_append] at hown2; obtain ⟨g, c2, rfl, hge, hgl⟩ := hown2.form (by omega); have HOWN := Lib.hid hown2; have HB2 := Lib.hid hb2; clear hgrow2 hb2 hown2 hmade)
    | (go_at_call 10; fail))
  rw [hrem]
  clear hrem h0 h0d h1
  go_loopw [10] (fun ix wr => ∃ k : Nat, ix = .int .i64 (k : Int) ∧ k ≤ 4 ∧ Hid (wr.ownsRow w1.heap.size 5 1 (.slice (some ⟨g, 0, none⟩) len0 c2) len0 (u8s (Cm.bur xs i v k))) ∧ Hid (Below w1.heap.size w1 wr))
    (fun ix _ => 4 - (intOf ix).toNat)
  case atStart => exact ⟨0, rfl, by omega, HOWN, HB2⟩
  case round =>
    obtain ⟨k, rfl, hk, HO, HBW⟩ := hrel
    by_cases hlt : k < 4
    · obtain ⟨u, hu⟩ : ∃ u, (Cm.bur xs i v k)[i + k]? = some u := ⟨(Cm.bur xs i v k)[i + k]'(by rw [Cm.bur_length, HN.out]; omega), List.getElem?_eq_getElem _⟩
      have hub := Cm.bur_fit i v HB.out k u (List.mem_of_getElem? hu)
      have hcl : wr.cell? ⟨g, i + k, none⟩ = some (.int .u8 u) := by rw [HO.out.cellAt (i + k) (by omega), List.getElem?_map, hu]; rfl
      have hfz := HO.out.frozenAt (i + k)
      obtain ⟨y, hxy⟩ : ∃ y, bits .xor .u8 u (Cm.byteAt v k) = y := ⟨_, rfl⟩
      have hst := HO.out.stored (i + k) (.int .u8 y)
      rw [u8s_set] at hst
      have HKK : (Cm.bur xs i v k).set (i + k) y = Cm.bur xs i v (k + 1) := by
        rw [← hxy]
        show _ = (Cm.bur xs i v k).set (i + k) (bits .xor .u8 ((Cm.bur xs i v k).getD (i + k) 0) (Cm.byteAt v k))
        rw [show (Cm.bur xs i v k).getD (i + k) 0 = u by simp [List.getD, hu]]
      rw [HKK] at hst
      have HST := Lib.hid hst.1
      clear HKK
      have HB3 := Lib.hid (HBW.out.setCell (p := ⟨g, i + k, none⟩) hge (.int .u8 y))
      clear HO HBW hst hu HOWN HB2 HP HQ hne
      rcases k with _ | _ | _ | _ | k
      · rw [Cm.byteAt0] at hxy
        rw [Nat.add_zero] at hcl hfz
        go_wp2
        go_region
        go_wp2
        go_roundw
        case rel => exact ⟨0 + 1, by go_num, by omega, HST, Lib.hid HB3.out.drew⟩
        case measure => simp [intOf]
      · rw [Cm.byteAt1] at hxy
        rw [Nat.zero_add] at hcl hfz
        go_wp2
        go_region
        go_wp2
        go_roundw
        case rel => exact ⟨0 + 1 + 1, by go_num, by omega, HST, Lib.hid HB3.out.drew⟩
        case measure => simp [intOf]
      · rw [Cm.byteAt2] at hxy
        rw [show 0 + 1 + 1 = 2 from rfl] at hcl hfz
        go_wp2
        go_region
        go_wp2
        go_roundw
        case rel => exact ⟨0 + 1 + 1 + 1, by go_num, by omega, HST, Lib.hid HB3.out.drew⟩
        case measure => simp [intOf]
      · rw [Cm.byteAt3] at hxy
        rw [show 0 + 1 + 1 + 1 = 3 from rfl] at hcl hfz
        go_wp2
        go_region
        go_wp2
        go_roundw
        case rel => exact ⟨0 + 1 + 1 + 1 + 1, by go_num, by omega, HST, Lib.hid HB3.out.drew⟩
        case measure => simp [intOf]
      · omega
    · obtain rfl : k = 4 := by omega
      have hb3 := hb1.trans (HBW.out.mono hb1.size)
      have ht3 := ht1.below HBW.out (Nat.le_refl _)
      obtain ⟨A3, c3, hv3, hcp3, hcm3, hrd3⟩ := own_view HO.out
      injection hv3 with e1 e2 e3
      subst e1 e3
      have HS1 := Lib.hid (Sum_any (some ⟨g, 0, none⟩) len0 c2 _ (Cm.bur xs i v 4) _ hrd3 (by rw [Cm.bur_length]; exact HN.out) hml (Cm.bur_fit i v HB.out 4) ht3)
      have HS2 := Lib.hid (Sum_any a0 len0 cap0 w.heap.size xs _ (hr.below hb3) HN.out hml HB.out ht3)
      rw [← HP.out] at HS1
      rw [← HQ.out] at HS2
      have HE := Lib.hid hb3
      clear hb3 ht3 hrd3 hr ht1 hb1
      go_wp2_with (go_at_call 10; fail)
      refine HS1.out.mono ?_
      rintro e w' ⟨rfl, rfl⟩
      go_wp2_with fail
      refine HS2.out.mono ?_
      rintro e w' ⟨rfl, rfl⟩
      go_wp2_with fail
      go_ret
      exact ⟨rfl, HE.out⟩
end Go.Proofs.YtmddekhflmacpaaDoor
