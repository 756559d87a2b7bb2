/- A ballot's parts, and the next one: the program's and the document's; the live question. -/
import Derived.Test.YtpbogacodhjlfaaBa
namespace Go.Proofs.Ytpbogacodhjlfaa
open Go.RowKit Go.Shelf Km Kx

/-- what a division tells -/
theorem quo_facts {b : Int} (h : 0 ≤ b) : b.tdiv 16777216 = b / 16777216 ∧ b.tdiv 16 = b / 16 ∧ (b / 16).tmod 1048576 = b / 16 % 1048576 ∧ b.tmod 16 = b % 16 :=
  ⟨Int.tdiv_eq_ediv_of_nonneg h, Int.tdiv_eq_ediv_of_nonneg h, Int.tmod_eq_emod_of_nonneg (by omega), Int.tmod_eq_emod_of_nonneg h⟩
theorem isB_iff (b : Int) : Bm.isB b ↔ 0 ≤ b ∧ b < 18014398509481984 := by unfold Bm.isB; omega
/-- a number's parts as what is handed back -/
def ptv (b : Int) : Value := .tuple #[.int .i64 (Bm.parts b).1, .int .i64 (Bm.parts b).2.1, .int .i64 (Bm.parts b).2.2.1, .bool (Bm.parts b).2.2.2]
theorem ptv_no {b : Int} (h : ¬ Bm.isB b) : ptv b = .tuple #[.int .i64 0, .int .i64 0, .int .i64 0, .bool false] := by unfold ptv; rw [Bm.parts_no h]
theorem ptv_ok {b : Int} (h : Bm.isB b) : ptv b = .tuple #[.int .i64 (b / 16777216), .int .i64 (b / 16 % 1048576), .int .i64 (b % 16), .bool true] := by unfold ptv; rw [Bm.parts_ok h]
def mkv (r s i : Int) : Value := .tuple #[.int .i64 (Bm.make r s i).1, .int .i64 (Bm.make r s i).2]
def nxv (b s i : Int) : Value := .tuple #[.int .i64 (Bm.next b s i).1, .int .i64 (Bm.next b s i).2]
theorem mkv_ok {r s i : Int} (h : Bm.V r s i) : mkv r s i = .tuple #[.int .i64 (Bm.mk r s i), .int .i64 0] := by unfold mkv; rw [Bm.make_ok h]
theorem mkv_no {r s i : Int} (h : ¬ Bm.V r s i) : mkv r s i = .tuple #[.int .i64 0, .int .i64 1] := by unfold mkv; rw [Bm.make_no h]

set_option maxRecDepth 100000 in
theorem Parts_any (b : Int) (w : World) (hb : -9223372036854775808 ≤ b ∧ b ≤ 9223372036854775807) : Calls Try.prog 11 #[.int .i64 b] w fun e w' => e = .returned (ptv b) ∧ Below w.heap.size w w' := by
  obtain ⟨b1, b2⟩ := hb
  by_cases q1 : b < 0
  · have HE := Lib.hid (ptv_no (b := b) (fun h => by rw [isB_iff] at h; omega))
    have d1 : decide (b < 0) = true := decide_eq_true q1
    go_enter Try.func11, Try.ntmps11
    go_wp2
    refine bodyPost_ret (results_tmp4 rfl _ _ _) rfl ?_
    exact ⟨by rw [HE.out]; rfl, Below.refl _ _⟩
  · have d1 : decide (b < 0) = false := decide_eq_false q1
    by_cases q2 : 18014398509481984 ≤ b
    · have HE := Lib.hid (ptv_no (b := b) (fun h => by rw [isB_iff] at h; omega))
      have d2 : decide (18014398509481984 ≤ b) = true := decide_eq_true q2
      go_enter Try.func11, Try.ntmps11
      go_wp2
      refine bodyPost_ret (results_tmp4 rfl _ _ _) rfl ?_
      exact ⟨by rw [HE.out]; rfl, Below.refl _ _⟩
    · have HE := Lib.hid (ptv_ok (b := b) (by rw [isB_iff]; omega))
      have d2 : decide (18014398509481984 ≤ b) = false := decide_eq_false q2
      obtain ⟨f1, f2, f3, f4⟩ := quo_facts (b := b) (by omega)
      have g1 : IntKind.i64.wrap (b / 16777216) = b / 16777216 := by rw [IntKind.wrap_i64]; omega
      have g2 : IntKind.i64.wrap (b / 16) = b / 16 := by rw [IntKind.wrap_i64]; omega
      have g3 : IntKind.i64.wrap (b / 16 % 1048576) = b / 16 % 1048576 := by rw [IntKind.wrap_i64]; omega
      have g4 : IntKind.i64.wrap (b % 16) = b % 16 := by rw [IntKind.wrap_i64]; omega
      go_enter Try.func11, Try.ntmps11
      go_wp2
      refine bodyPost_ret (results_tmp4 rfl _ _ _) rfl ?_
      exact ⟨by rw [HE.out]; rfl, Below.refl _ _⟩

set_option maxRecDepth 100000 in
theorem RParts_any (b : Int) (w : World) (hb : -9223372036854775808 ≤ b ∧ b ≤ 9223372036854775807) : Calls Try.prog 12 #[.int .i64 b] w fun e w' => e = .returned (ptv b) ∧ Below w.heap.size w w' := by
  obtain ⟨b1, b2⟩ := hb
  by_cases q1 : b < 0
  · have HE := Lib.hid (ptv_no (b := b) (fun h => by rw [isB_iff] at h; omega))
    have d1 : decide (b < 0) = true := decide_eq_true q1
    go_enter Try.func12, Try.ntmps12
    go_wp2
    refine bodyPost_ret (results_tmp4 rfl _ _ _) rfl ?_
    exact ⟨by rw [HE.out]; rfl, Below.refl _ _⟩
  · have d1 : decide (b < 0) = false := decide_eq_false q1
    obtain ⟨f1, f2, f3, f4⟩ := quo_facts (b := b) (by omega)
    have g1 : IntKind.i64.wrap (b / 16777216) = b / 16777216 := by rw [IntKind.wrap_i64]; omega
    have g2 : IntKind.i64.wrap (b / 16) = b / 16 := by rw [IntKind.wrap_i64]; omega
    have g3 : IntKind.i64.wrap (b / 16 % 1048576) = b / 16 % 1048576 := by rw [IntKind.wrap_i64]; omega
    have g4 : IntKind.i64.wrap (b % 16) = b % 16 := by rw [IntKind.wrap_i64]; omega
    by_cases q2 : 1073741823 < b / 16777216
    · have HE := Lib.hid (ptv_no (b := b) (fun h => by rw [isB_iff] at h; omega))
      have d2 : decide (1073741823 < b / 16777216) = true := decide_eq_true q2
      go_enter Try.func12, Try.ntmps12
      go_wp2
      refine bodyPost_ret (results_tmp4 rfl _ _ _) rfl ?_
      exact ⟨by rw [HE.out]; rfl, Below.refl _ _⟩
    · have HE := Lib.hid (ptv_ok (b := b) (by rw [isB_iff]; omega))
      have d2 : decide (1073741823 < b / 16777216) = false := decide_eq_false q2
      go_enter Try.func12, Try.ntmps12
      go_wp2
      refine bodyPost_ret (results_tmp4 rfl _ _ _) rfl ?_
      exact ⟨by rw [HE.out]; rfl, Below.refl _ _⟩

/-- the chain of the document's Make, by its first true condition -/
def wrong (r s i : Int) : Bool := (((((decide (r < 0) || decide (1073741823 < r)) || decide (s < 0)) || decide (1048575 < s)) || decide (i < 0)) || decide (15 < i))
theorem wrong_iff (r s i : Int) : wrong r s i = true ↔ ¬ Bm.V r s i := by
  unfold wrong Bm.V
  simp only [Bool.or_eq_true, decide_eq_true_eq]
  omega
set_option maxRecDepth 100000 in
theorem RMake_any (r s i : Int) (w : World) : Calls Try.prog 10 #[.int .i64 r, .int .i64 s, .int .i64 i] w fun e w' => e = .returned (mkv r s i) ∧ Below w.heap.size w w' := by
  by_cases hv : Bm.V r s i
  · have HE := Lib.hid (mkv_ok hv)
    unfold Bm.V at hv
    have d1 : decide (r < 0) = false := decide_eq_false (by omega)
    have d2 : decide (1073741823 < r) = false := decide_eq_false (by omega)
    have d3 : decide (s < 0) = false := decide_eq_false (by omega)
    have d4 : decide (1048575 < s) = false := decide_eq_false (by omega)
    have d5 : decide (i < 0) = false := decide_eq_false (by omega)
    have d6 : decide (15 < i) = false := decide_eq_false (by omega)
    have g1 : IntKind.i64.wrap (r * 16777216) = r * 16777216 := by rw [IntKind.wrap_i64]; omega
    have g2 : IntKind.i64.wrap (s * 16) = s * 16 := by rw [IntKind.wrap_i64]; omega
    have g3 : IntKind.i64.wrap (r * 16777216 + s * 16) = r * 16777216 + s * 16 := by rw [IntKind.wrap_i64]; omega
    have g4 : IntKind.i64.wrap (r * 16777216 + s * 16 + i) = r * 16777216 + s * 16 + i := by rw [IntKind.wrap_i64]; omega
    clear hv
    go_enter Try.func10, Try.ntmps10
    go_wp2
    go_ret2
    exact ⟨by rw [HE.out]; rfl, Below.refl _ _⟩
  · have HE := Lib.hid (mkv_no hv)
    rw [← wrong_iff] at hv
    unfold wrong at hv
    generalize e1 : decide (r < 0) = c1 at hv
    generalize e2 : decide (1073741823 < r) = c2 at hv
    generalize e3 : decide (s < 0) = c3 at hv
    generalize e4 : decide (1048575 < s) = c4 at hv
    generalize e5 : decide (i < 0) = c5 at hv
    generalize e6 : decide (15 < i) = c6 at hv
    cases c1 <;> cases c2 <;> cases c3 <;> cases c4 <;> cases c5 <;> cases c6 <;> first
      | (exact absurd hv (by decide))
      | (clear hv
         go_enter Try.func10, Try.ntmps10
         go_wp2
         go_ret2
         exact ⟨by rw [HE.out]; rfl, Below.refl _ _⟩)
end Go.Proofs.Ytpbogacodhjlfaa
