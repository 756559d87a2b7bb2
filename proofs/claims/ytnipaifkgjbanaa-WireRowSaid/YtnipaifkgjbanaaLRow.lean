import Derived.Test.YtnipaifkgjbanaaKit3
namespace Go.Proofs.Ytnipaifkgjbanaa
open Go.RowKit Go.Shelf

set_option maxRecDepth 100000 in
set_option maxHeartbeats 2000000 in
theorem row_walk (a0 : Option Addr) (len0 cap0 : Nat) (z0 : List Int) (a1 : Option Addr) (len1 cap1 : Nat) (z1 : List Int) (w : World) (w0 : RowOf .i64 w a0 len0 cap0 z0) (w1 : RowOf .i64 w a1 len1 cap1 z1) :
    Calls Try.prog 10 #[.slice a0 len0 cap0, .slice a1 len1 cap1] w fun e w' => e = .returned (.bool true) ∧ Below w.heap.size w w' := by
  obtain ⟨xs, hn1, hc1, hm1, hr1, hw1⟩ := row_rd w0
  obtain ⟨ys, hn2, hc2, hm2, hr2, hw2⟩ := row_rd w1
  have HX : Hid (Wm.Fits xs) := fun n hn => wf_i64 (hw1 n hn)
  have HY : Hid (Wm.Fits ys) := fun n hn => wf_i64 (hw2 n hn)
  clear w0 w1 hw1 hw2
  obtain ⟨i0, hi, hz0, hz1, hz2⟩ := info_parts info_u8
  have hm1' := hm1
  have hm2' := hm2
  unfold maxLen at hm1' hm2'
  by_cases hbig : 1000 < len0 ∨ 1000 < len1
  · have hd : (decide (1000 < (len0 : Int)) || decide (1000 < (len1 : Int))) = true := by
      rw [Bool.or_eq_true, decide_eq_true_iff, decide_eq_true_iff]; omega
    by_cases h0 : 1000 < len0
    all_goals
      go_enter Try.func10, Try.ntmps10
      go_wp2_with (go_at_call 11; refine (head_any _).mono ?_; rintro e w1 ⟨rfl, hb1⟩)
      go_ret
      exact ⟨rfl, hb1⟩
  · go_enter Try.func10, Try.ntmps10
    go_wp2_with (go_at_call 11; refine (head_any _).mono ?_; rintro e w1 ⟨rfl, hb1⟩)
    go_loopw [6, 8] (fun out ix wr => ∃ k : Nat, ix = .int .i64 (k : Int) ∧ k ≤ len0 ∧ wr.ownsRow w1.heap.size 5 1 out (Wm.flat (xs.take k)).length (u8s (Wm.flat (xs.take k))) ∧ Below w1.heap.size w1 wr)
      (fun _ ix _ => len0 - (intOf ix).toNat)
    case atStart => exact ⟨0, rfl, by omega, World.ownsRow_nil _ _ _ _, Below.refl _ _⟩
    case round =>
      obtain ⟨k, rfl, hk, hown, hB⟩ := hrel
      by_cases hlt : k < len0
      · obtain ⟨x, hxk⟩ : ∃ x, xs[k]? = some x := ⟨xs[k], List.getElem?_eq_getElem (by omega)⟩
        have hxb := HX.out x (List.mem_of_getElem? hxk)
        obtain ⟨ad, rfl, _, hcl⟩ := ((hr1.below hb1).below (hB.mono hb1.size)).getU hxk
        have HK := Lib.hid hxk
        have hfl := Wm.flatLen (xs.take k)
        rw [List.length_take] at hfl
        have hpl := Wm.pint_len x
        clear hxk hr1 hr2
        go_wp2_with (first | (go_at_call 14; refine (PutInt_any _ _ hxb.1 hxb.2).mono ?_; rintro e w2 ⟨v, rfl, hown2, hb2⟩; obtain ⟨A2, cap2, rfl, hcp2, hcm2, hrd2⟩ := own_view hown2) | (at_builtin; refine wpList_app rfl _ _ 22 rfl w1.heap.size 5 i0 (.int .u8 0) 1 Try.underlying22 hi hz0 hz1 hz2 rfl _ _ _ rfl (own_below hown hb2 (Nat.le_refl _)) w2.heap.size A2 _ cap2 (u8s (Wm.pint x)) rfl (by rw [List.length_map]) hrd2 (oneCell_ints _ _) (by unfold maxLen; omega) (by omega) (Nat.le_trans hB.size hb2.size) ?_; intro v' w3 hown' hgrow _))
        have hB3 := below_app (hB.trans (hb2.mono hB.size)) (own_below hown hb2 (Nat.le_refl _)) hgrow (Nat.le_trans hB.size hb2.size)
        have HO : Hid (w3.ownsRow w1.heap.size 5 1 v' (Wm.flat (xs.take (k + 1))).length (u8s (Wm.flat (xs.take (k + 1))))) := by
          show World.ownsRow _ _ _ _ _ _ _
          rw [Wm.flatSucc HK.out, List.length_append]
          simpa [u8s] using hown'
        go_roundw
        case rel => exact ⟨k + 1, by go_num, by omega, HO.out, hB3⟩
        case measure => simp [intOf]; omega
      · obtain ⟨wa, rfl⟩ : ∃ wa : World, wa = wr := ⟨_, rfl⟩
        rw [List.take_of_length_le (by omega)] at hown
        obtain ⟨A6, cap6, rfl, hcp6, hcm6, hrd6⟩ := own_view hown
        have hl6 := Wm.flatLen xs
        have hl6' : (Wm.flat xs).length ≤ 10000 := by omega
        have HO6 := Lib.hid hown
        have HR6 := Lib.hid hrd6
        have HB6 := Lib.hid hB
        have HR2 := Lib.hid ((hr2.below hb1).below (hB.mono hb1.size))
        have HR1 := Lib.hid ((hr1.below hb1).below (hB.mono hb1.size))
        have hsz := Nat.le_trans hb1.size hB.size
        clear hown hrd6 hB hl6 hr1 hr2
        go_wp2
        go_loopw [7, 9] (fun out ix wr => ∃ k : Nat, ix = .int .i64 (k : Int) ∧ k ≤ len1 ∧ wr.ownsRow wa.heap.size 5 1 out (Wm.flat (ys.take k)).length (u8s (Wm.flat (ys.take k))) ∧ Below wa.heap.size wa wr)
          (fun _ ix _ => len1 - (intOf ix).toNat)
        case atStart => exact ⟨0, rfl, by omega, World.ownsRow_nil _ _ _ _, Below.refl _ _⟩
        case round =>
          obtain ⟨j, rfl, hj, hown, hB⟩ := hrel
          by_cases hlt : j < len1
          · obtain ⟨x, hxk⟩ : ∃ x, ys[j]? = some x := ⟨ys[j], List.getElem?_eq_getElem (by omega)⟩
            have hxb := HY.out x (List.mem_of_getElem? hxk)
            obtain ⟨ad, rfl, _, hcl⟩ := (HR2.out.below (hB.mono hsz)).getU hxk
            have HK := Lib.hid hxk
            have hfl := Wm.flatLen (ys.take j)
            rw [List.length_take] at hfl
            have hpl := Wm.pint_len x
            clear hxk
            go_wp2_with (first | (go_at_call 14; refine (PutInt_any _ _ hxb.1 hxb.2).mono ?_; rintro e w2 ⟨v, rfl, hown2, hb2⟩; obtain ⟨A2, cap2, rfl, hcp2, hcm2, hrd2⟩ := own_view hown2) | (at_builtin; refine wpList_app rfl _ _ 22 rfl wa.heap.size 5 i0 (.int .u8 0) 1 Try.underlying22 hi hz0 hz1 hz2 rfl _ _ _ rfl (own_below hown hb2 (Nat.le_refl _)) w2.heap.size A2 _ cap2 (u8s (Wm.pint x)) rfl (by rw [List.length_map]) hrd2 (oneCell_ints _ _) (by unfold maxLen; omega) (by omega) (Nat.le_trans hB.size hb2.size) ?_; intro v' w3 hown' hgrow _))
            have hB3 := below_app (hB.trans (hb2.mono hB.size)) (own_below hown hb2 (Nat.le_refl _)) hgrow (Nat.le_trans hB.size hb2.size)
            have HO : Hid (w3.ownsRow wa.heap.size 5 1 v' (Wm.flat (ys.take (j + 1))).length (u8s (Wm.flat (ys.take (j + 1))))) := by
              show World.ownsRow _ _ _ _ _ _ _
              rw [Wm.flatSucc HK.out, List.length_append]
              simpa [u8s] using hown'
            go_roundw
            case rel => exact ⟨j + 1, by go_num, by omega, HO.out, hB3⟩
            case measure => simp [intOf]; omega
          · obtain ⟨wb, rfl⟩ : ∃ wb : World, wb = wr := ⟨_, rfl⟩
            rw [List.take_of_length_le (by omega)] at hown
            obtain ⟨A7, cap7, rfl, hcp7, hcm7, hrd7⟩ := own_view hown
            have HR7 := Lib.hid hrd7
            have HS6 := Lib.hid (HR6.out.below hB)
            have HS1 := Lib.hid (HR1.out.below (hB.mono hsz))
            have HS2 := Lib.hid (HR2.out.below (hB.mono hsz))
            have HBB := Lib.hid hB
            clear hown hrd7 hB
            go_wp2
            go_loop [10, 11] (fun t ix => ∃ i : Nat, ix = .int .i64 (i : Int) ∧ i ≤ len0 ∧ t = .int .i64 ((Wm.flat (xs.take i)).length : Int)) (fun _ ix => len0 - (intOf ix).toNat)
            case atStart => exact ⟨0, rfl, by omega, rfl⟩
            case round =>
              obtain ⟨i, rfl, hi3, rfl⟩ := hrel
              by_cases hlt : i < len0
              · obtain ⟨x, hxk⟩ : ∃ x, xs[i]? = some x := ⟨xs[i], List.getElem?_eq_getElem (by omega)⟩
                obtain ⟨ad, rfl, _, hcl⟩ := HS1.out.getU hxk
                have HRD := Lib.hid (Wm.flatRd HX.out hxk)
                have HL := Lib.hid (Wm.flatSucc hxk)
                have hfl := Wm.flatLen (xs.take i)
                rw [List.length_take] at hfl
                have hpl := Wm.pint_len x
                clear hxk
                go_wp2_with (go_at_call 12; go_must (refine (Int_any _ _ _ _ (Wm.flat xs) _ _ (by exact HS6.out) rfl hcp6 hcm6 (Wm.flatByte HX.out) (by omega) (by omega)).mono ?_); rw [HRD.out]; rintro e w' ⟨rfl, rfl⟩)
                go_round
                case rel => exact ⟨i + 1, by go_num, by omega, by rw [HL.out, List.length_append]; go_num⟩
                case measure => simp [intOf]; omega
              · rw [List.take_of_length_le (by omega)]
                have HQ := Lib.hid (Wm.flatBeq HX.out HY.out)
                have hcv6 := fun nq => run_str (P := Try.prog) (wb.drewN nq) 22 5 9 Try.underlying22 Try.underlying5 Try.underlying9 _ A6 _ cap6 (Wm.flat xs) rfl (HS6.out.drewN nq)
                have hcv7 := fun nq => run_str (P := Try.prog) (wb.drewN nq) 22 5 9 Try.underlying22 Try.underlying5 Try.underlying9 _ A7 _ cap7 (Wm.flat ys) rfl (HR7.out.drewN nq)
                go_wp2_with fail
                go_quiet ((go_at_call 24; (exact Calls.quiet_of (Same_any _ _ _ _ _ _ _ _ xs ys _ (HS1.out.drewN _) (HS2.out.drewN _) hn1 hn2 (Nat.le_trans hc1 hm1)))))
                go_wp2
                go_ret
                exact ⟨ret_bool (by rw [HQ.out]; simp), below_drawn (hb1.trans ((HB6.out.trans (HBB.out.mono HB6.out.size)).mono hb1.size)) _⟩
end Go.Proofs.Ytnipaifkgjbanaa
