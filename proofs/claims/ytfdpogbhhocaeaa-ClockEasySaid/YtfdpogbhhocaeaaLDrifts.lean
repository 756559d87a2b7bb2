/- ClockDrifts, walked. -/
import Derived.Test.YtfdpogbhhocaeaaCo
import Derived.Test.YtfdpogbhhocaeaaCk
import Derived.Test.YtfdpogbhhocaeaaCz
namespace Go.Proofs.Ytfdpogbhhocaeaa
open Go.RowKit Go.Shelf Km

/-- nodes that came as an argument -/
theorem nodes_of {w : World} {a : Option Addr} {len cap : Nat} {zs : List Int} (h : RowOf .i64 w a len cap zs) : ∃ xs : List Int, xs.length = len ∧ len ≤ cap ∧ cap ≤ maxLen ∧ Rd w w.heap.size a (i64s xs) ∧ ∀ n ∈ xs, in64 n := by
  obtain ⟨xs, h1, h2, h3, h4, h5⟩ := row_rd h
  exact ⟨xs, h1, h2, h3, h4, fun n hn => wf_i64 (h5 n hn)⟩
theorem same_bool {b c : Bool} {P : Prop} (h : b = true ↔ P) (k : c = true ↔ P) : b = c := by
  cases b <;> cases c <;> simp_all

set_option maxRecDepth 100000 in
set_option maxHeartbeats 4000000 in
theorem drifts_walk (a0 : Option Addr) (len0 cap0 : Nat) (l : List (Int × Int)) (a1 : Int) (a2 : Option Addr) (len2 cap2 : Nat) (z2 : List Int) (a3 : Int) (a4 : Option Addr) (len4 cap4 : Nat) (z4 : List Int) (a5 : Int) (w : World)
    (w0 : StsAt w a0 len0 cap0 l) (_w1 : (Lit.int .i64 a1).wf = true) (w2 : RowOf .i64 w a2 len2 cap2 z2) (_w3 : (Lit.int .i64 a3).wf = true) (w4 : RowOf .i64 w a4 len4 cap4 z4) (_w5 : (Lit.int .i64 a5).wf = true) :
    Calls Try.prog 3 #[.slice a0 len0 cap0, .int .i64 a1, .slice a2 len2 cap2, .int .i64 a3, .slice a4 len4 cap4, .int .i64 a5] w fun e w' => e = .returned (.bool true) ∧ Below w.heap.size w w' := by
  obtain ⟨hn, hnc, -, hl, hr⟩ := w0
  obtain ⟨x2, hn2, -, -, hr2, hx2⟩ := nodes_of w2
  obtain ⟨x4, hn4, -, -, hr4, hx4⟩ := nodes_of w4
  clear w2 w4
  have HN := Lib.hid hn
  have HN2 := Lib.hid hn2
  have HN4 := Lib.hid hn4
  have HX2 := Lib.hid hx2
  have HX4 := Lib.hid hx4
  have HL := Lib.hid hl
  have HR := Lib.hid hr
  have HR2 := Lib.hid hr2
  have HR4 := Lib.hid hr4
  clear hn hn2 hn4 hx2 hx4 hl hr hr2 hr4
  go_enter Try.func3, Try.ntmps3
  go_wp2_with (first | (go_at_call 8; refine (head_any _).mono ?_; rintro e w1 ⟨rfl, hb1⟩) | (go_at_call 9; fail))
  by_cases hg : len0 ≤ 40 ∧ len2 ≤ 20 ∧ len4 ≤ 20
  · refine (great_no _ _ _ _ _ _ _ _ _ _ hg.1 hg.2.1 hg.2.2).mono ?_
    rintro e w2 ⟨rfl, rfl⟩
    obtain ⟨g0, g2, g4⟩ := hg
    have hz1 := hb1.size
    have HG1 := Lib.hid (Gain_any a0 len0 cap0 w.heap.size l a1 w2 (HR.out.below hb1) HN.out hz1 (by omega))
    have HB1 := Lib.hid hb1
    clear hb1
    go_wp2_with (go_at_call 10; fail)
    refine HG1.out.mono ?_
    rintro e w3 ⟨rfl, hb3⟩
    have HB3 := Lib.hid (HB1.out.trans (hb3.mono hz1))
    have hz3 := HB3.out.size
    have HG2 := Lib.hid (RGain_any a0 len0 cap0 w.heap.size l a1 w3 (HR.out.below HB3.out) HN.out hz3 (by omega))
    clear hb3 HB1 HG1
    go_wp2_with (go_at_call 11; fail)
    refine HG2.out.mono ?_
    rintro e w4 ⟨rfl, hb4⟩
    have HB4 := Lib.hid (HB3.out.trans (hb4.mono hz3))
    have hz4 := HB4.out.size
    have HD1 := Lib.hid (Drift_any a0 len0 cap0 w.heap.size l a2 len2 cap2 w.heap.size x2 a3 a4 len4 cap4 w.heap.size x4 a5 w4 (HR.out.below HB4.out) HN.out hnc hz4 HL.out (by omega) (HR2.out.below HB4.out) HN2.out hz4 HX2.out (by omega) (HR4.out.below HB4.out) HN4.out hz4 HX4.out (by omega))
    have hbe : (Cl.gain l a1 == Cl.gain l a1) = true := by simp
    clear hb4 HB3 HG2
    generalize Cl.gain l a1 = gn at *
    go_wp2_with (go_at_call 12; fail)
    refine HD1.out.mono ?_
    rintro e w5 ⟨b, rfl, hbi, hb5⟩
    have HB5 := Lib.hid (HB4.out.trans (hb5.mono hz4))
    have hz5 := HB5.out.size
    have HBI := Lib.hid hbi
    have HD2 := Lib.hid (RDrift_any a0 len0 cap0 w.heap.size l a2 len2 cap2 w.heap.size x2 a3 a4 len4 cap4 w.heap.size x4 a5 w5 (HR.out.below HB5.out) HN.out hnc hz5 (by omega) (HR2.out.below HB5.out) HN2.out hz5 (by omega) (HR4.out.below HB5.out) HN4.out hz5 (by omega))
    clear hb5 HB4 HD1 hbi
    go_wp2_with (go_at_call 13; fail)
    refine HD2.out.mono ?_
    rintro e w6 ⟨c, rfl, hci, hb6⟩
    have HB6 := Lib.hid (HB5.out.trans (hb6.mono hz5))
    have hs := same_bool HBI.out hci
    subst hs
    clear hb6 HB5 HD2 hci HBI
    have hbb : (b == b) = true := by simp
    go_wp2
    go_ret
    exact ⟨rfl, HB6.out⟩
  · refine (great_yes _ _ _ _ _ _ _ _ _ _ hg).mono ?_
    rintro e w2 ⟨rfl, rfl⟩
    go_wp2
    go_ret
    exact ⟨rfl, hb1⟩
end Go.Proofs.Ytfdpogbhhocaeaa
