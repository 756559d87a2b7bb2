/- ClockEasy, walked. -/
import Derived.Test.YtfdpogbhhocaeaaCo
import Derived.Test.YtfdpogbhhocaeaaCz
import Derived.Test.YtfdpogbhhocaeaaLDrifts
namespace Go.Proofs.Ytfdpogbhhocaeaa
open Go.RowKit Go.Shelf Km

set_option maxRecDepth 100000 in
set_option maxHeartbeats 8000000 in
theorem easy_walk (a0 : Option Addr) (len0 cap0 : Nat) (l : List (Int × Int)) (a1 : Option Addr) (len1 cap1 : Nat) (z1 : List Int) (a2 : Int) (a3 : Option Addr) (len3 cap3 : Nat) (z3 : List Int) (a4 a5 : Int) (w : World)
    (w0 : StsAt w a0 len0 cap0 l) (w1 : RowOf .i64 w a1 len1 cap1 z1) (w2 : (Lit.int .i64 a2).wf = true) (w3 : RowOf .i64 w a3 len3 cap3 z3) (w4 : (Lit.int .i64 a4).wf = true) (w5 : (Lit.int .u8 a5).wf = true) :
    Calls Try.prog 7 #[.slice a0 len0 cap0, .slice a1 len1 cap1, .int .i64 a2, .slice a3 len3 cap3, .int .i64 a4, .int .u8 a5] w fun e w' => e = .returned (.bool true) ∧ Below w.heap.size w w' := by
  obtain ⟨hn, hnc, -, hl, hr⟩ := w0
  obtain ⟨x1, hn1, -, -, hr1, hx1⟩ := nodes_of w1
  obtain ⟨x3, hn3, -, -, hr3, hx3⟩ := nodes_of w3
  have hv2 := wf_i64 w2
  have hv4 := wf_i64 w4
  have hu : 0 ≤ a5 ∧ a5 ≤ 255 := wf_u8 (xs := [a5]) (fun n hn => by rw [List.mem_singleton] at hn; subst hn; exact w5) a5 (List.mem_singleton.2 rfl)
  clear w1 w2 w3 w4 w5
  have HN := Lib.hid hn
  have HN1 := Lib.hid hn1
  have HN3 := Lib.hid hn3
  have HX1 := Lib.hid hx1
  have HX3 := Lib.hid hx3
  have HL := Lib.hid hl
  have HR := Lib.hid hr
  have HR1 := Lib.hid hr1
  have HR3 := Lib.hid hr3
  have hw5 : IntKind.i64.wrap a5 = a5 := by rw [IntKind.wrap_i64]; omega
  clear hn hn1 hn3 hx1 hx3 hl hr hr1 hr3
  go_enter Try.func7, Try.ntmps7
  go_wp2_with (first | (go_at_call 8; refine (head_any _).mono ?_; rintro e w1 ⟨rfl, hb1⟩) | (go_at_call 9; fail))
  by_cases hg : len0 ≤ 40 ∧ len1 ≤ 20 ∧ len3 ≤ 20
  · refine (great_no _ _ _ _ _ _ _ _ _ _ hg.1 hg.2.1 hg.2.2).mono ?_
    rintro e w2 ⟨rfl, rfl⟩
    obtain ⟨g0, g1, g3⟩ := hg
    by_cases hg2 : a2 ≤ 1125899906842624
    · have e2 : decide ((1125899906842624 : Int) < a2) = false := by simp; omega
      by_cases hg4 : -1125899906842624 ≤ a4
      · have e4 : decide (a4 < (-1125899906842624 : Int)) = false := by simp; omega
        have hz1 := hb1.size
        have HB1 := Lib.hid hb1
        have hq2 : IntKind.i64.wrap (a2 + a5) = a2 + a5 := by rw [IntKind.wrap_i64]; omega
        have hq4 : IntKind.i64.wrap (a4 - a5) = a4 - a5 := by rw [IntKind.wrap_i64]; omega
        have HD := Lib.hid (fun (W : World) (h : Below w.heap.size w W) (m k : Int) => Drift_any a0 len0 cap0 w.heap.size l a1 len1 cap1 w.heap.size x1 m a3 len3 cap3 w.heap.size x3 k W (HR.out.below h) HN.out hnc h.size HL.out (by omega) (HR1.out.below h) HN1.out h.size HX1.out (by omega) (HR3.out.below h) HN3.out h.size HX3.out (by omega))
        have HDo := Lib.hid (fun (W : World) (h : Below w.heap.size w W) (m k : Int) => Drift_any a0 len0 cap0 w.heap.size l a1 len1 cap1 w.heap.size x1 m none 0 0 w.heap.size [] k W (HR.out.below h) HN.out hnc h.size HL.out (by omega) (HR1.out.below h) HN1.out h.size HX1.out (by omega) (Rd.nil _ _ _) rfl h.size (fun _ q => by cases q) (by omega))
        have HDs := Lib.hid (fun (W : World) (h : Below w.heap.size w W) (m k : Int) => Drift_any a0 len0 cap0 w.heap.size l none 0 0 w.heap.size [] m a3 len3 cap3 w.heap.size x3 k W (HR.out.below h) HN.out hnc h.size HL.out (by omega) (Rd.nil _ _ _) rfl h.size (fun _ q => by cases q) (by omega) (HR3.out.below h) HN3.out h.size HX3.out (by omega))
        clear hb1
        go_wp2_with (go_at_call 12; fail)
        refine (HD.out _ HB1.out a2 a4).mono ?_
        rintro e w2 ⟨b2, rfl, hbi2, hb2⟩
        have HB2 := Lib.hid (HB1.out.trans (hb2.mono hz1))
        have hz2 := HB2.out.size
        have HBI := Lib.hid hbi2
        clear hb2 hbi2 HB1
        go_wp2_with (go_at_call 12; fail)
        refine (HD.out _ HB2.out a2 0).mono ?_
        rintro e w3 ⟨b3, rfl, hbi3, hb3⟩
        have HB3 := Lib.hid (HB2.out.trans (hb3.mono hz2))
        have hz3 := HB3.out.size
        obtain rfl := hbi3.2 (Cl.dr_zero l x1 a2 x3 (Int.le_refl _))
        clear hb3 hbi3 HB2
        go_wp2_with (go_at_call 12; fail)
        refine (HDo.out _ HB3.out a2 a4).mono ?_
        rintro e w4 ⟨b4, rfl, hbi4, hb4⟩
        have HB4 := Lib.hid (HB3.out.trans (hb4.mono hz3))
        have hz4 := HB4.out.size
        obtain rfl := hbi4.2 (Cl.dr_others l x1 a2 a4)
        clear hb4 hbi4 HB3
        go_wp2_with (go_at_call 12; fail)
        refine (HDs.out _ HB4.out a2 a4).mono ?_
        rintro e w5 ⟨b5, rfl, hbi5, hb5⟩
        have HB5 := Lib.hid (HB4.out.trans (hb5.mono hz4))
        have hz5 := HB5.out.size
        obtain rfl := hbi5.2 (Cl.dr_noone l a2 x3 a4)
        clear hb5 hbi5 HB4
        cases b2 with
        | false =>
          go_wp2
          go_ret
          exact ⟨rfl, HB5.out⟩
        | true =>
          have hdr := HBI.out.1 rfl
          have HE1 := Lib.hid (hdr.easy (show a2 ≤ a2 + a5 by omega) (Int.le_refl a4))
          have HE2 := Lib.hid (hdr.easy (Int.le_refl a2) (show a4 - a5 ≤ a4 by omega))
          clear hdr HBI
          go_wp2_with (go_at_call 12; fail)
          refine (HD.out _ HB5.out (a2 + a5) a4).mono ?_
          rintro e w6 ⟨b6, rfl, hbi6, hb6⟩
          have HB6 := Lib.hid (HB5.out.trans (hb6.mono hz5))
          have hz6 := HB6.out.size
          obtain rfl := hbi6.2 HE1.out
          clear hb6 hbi6 HB5
          go_wp2_with (go_at_call 12; fail)
          refine (HD.out _ HB6.out a2 (a4 - a5)).mono ?_
          rintro e w7 ⟨b7, rfl, hbi7, hb7⟩
          have HB7 := Lib.hid (HB6.out.trans (hb7.mono hz6))
          have hz7 := HB7.out.size
          obtain rfl := hbi7.2 HE2.out
          clear hb7 hbi7 HB6
          go_wp2
          go_ret
          exact ⟨rfl, HB7.out⟩
      · have e4 : decide (a4 < (-1125899906842624 : Int)) = true := by simp; omega
        go_wp2
        go_ret
        exact ⟨rfl, hb1⟩
    · have e2 : decide ((1125899906842624 : Int) < a2) = true := by simp; omega
      go_wp2
      go_ret
      exact ⟨rfl, hb1⟩
  · refine (great_yes _ _ _ _ _ _ _ _ _ _ hg).mono ?_
    rintro e w2 ⟨rfl, rfl⟩
    go_wp2
    go_ret
    exact ⟨rfl, hb1⟩
end Go.Proofs.Ytfdpogbhhocaeaa
