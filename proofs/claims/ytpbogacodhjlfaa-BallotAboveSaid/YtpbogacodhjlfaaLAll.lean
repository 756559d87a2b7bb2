/- The five laws of ballots, walked. -/
import Derived.Test.YtpbogacodhjlfaaBc
namespace Go.Proofs.Ytpbogacodhjlfaa
open Go.RowKit Go.Shelf Km Kx
set_option linter.unusedVariables false

theorem wf_u32' {n : Int} (h : (Lit.int .u32 n).wf = true) : 0 ≤ n ∧ n ≤ 4294967295 := by
  simpa [Lit.wf, IntKind.min, IntKind.max, IntKind.signed, IntKind.bits] using h
theorem wf_u8' {n : Int} (h : (Lit.int .u8 n).wf = true) : 0 ≤ n ∧ n ≤ 255 := by
  simpa [Lit.wf, IntKind.min, IntKind.max, IntKind.signed, IntKind.bits] using h
/-- a part that came as a number, by its rest -/
theorem rest_of {a n : Int} (h : 0 ≤ a) (hn : 0 < n) : ∃ r, a.tmod n = r ∧ 0 ≤ r ∧ r < n := ⟨a % n, Int.tmod_eq_emod_of_nonneg h, Int.emod_nonneg a (by omega), Int.emod_lt_of_pos a hn⟩

set_option maxRecDepth 100000 in
set_option maxHeartbeats 1000000 in
theorem tells_walk (r s i b : Int) (w : World) (w0 : (Lit.int .i64 r).wf = true) (w1 : (Lit.int .i64 s).wf = true) (w2 : (Lit.int .i64 i).wf = true) (w3 : (Lit.int .i64 b).wf = true) :
    Calls Try.prog 3 #[.int .i64 r, .int .i64 s, .int .i64 i, .int .i64 b] w fun e w' => e = .returned (.bool true) ∧ Below w.heap.size w w' := by
  have HB := Lib.hid (Bxs.start w)
  have hb := wf_i64 w3
  have H1 : Hid (Mkc 9 r s i (mkv r s i)) := Lib.hid (fun W => Make_any r s i W)
  have H2 : Hid (Mkc 10 r s i (mkv r s i)) := Lib.hid (fun W => RMake_any r s i W)
  have H3 : Hid (∀ W, Calls Try.prog 11 #[.int .i64 b] W fun e w' => e = .returned (ptv b) ∧ Below W.heap.size W w') := Lib.hid (fun W => Parts_any b W hb)
  have H4 : Hid (∀ W, Calls Try.prog 12 #[.int .i64 b] W fun e w' => e = .returned (ptv b) ∧ Below W.heap.size W w') := Lib.hid (fun W => RParts_any b W hb)
  have H5 : Hid (Mkc 13 b s i (nxv b s i)) := Lib.hid (fun W => Next_any b s i W hb)
  have H6 : Hid (Mkc 14 b s i (nxv b s i)) := Lib.hid (fun W => RNext_any b s i W hb)
  clear w0 w1 w2 w3 hb
  unfold mkv at H1 H2
  unfold ptv at H3 H4
  unfold nxv at H5 H6
  generalize (Bm.make r s i).1 = m1 at *
  generalize (Bm.make r s i).2 = m2 at *
  generalize (Bm.next b s i).1 = n1 at *
  generalize (Bm.next b s i).2 = n2 at *
  generalize (Bm.parts b).1 = p1 at *
  generalize (Bm.parts b).2.1 = p2 at *
  generalize (Bm.parts b).2.2.1 = p3 at *
  generalize (Bm.parts b).2.2.2 = p4 at *
  go_enter Try.func3, Try.ntmps3
  go_wp2_with (first | (go_at_call 8; refine Calls.mono (head_any _) ?_; rintro e w_ ⟨rfl, hb_⟩; replace HB := Lib.hid (HB.out.call hb_); clear hb_) | (go_at_call 9; refine Calls.mono (H1.out _) ?_; rintro e w_ ⟨rfl, hb_⟩; replace HB := Lib.hid (HB.out.call hb_); clear hb_) | (go_at_call 10; refine Calls.mono (H2.out _) ?_; rintro e w_ ⟨rfl, hb_⟩; replace HB := Lib.hid (HB.out.call hb_); clear hb_) | (go_at_call 11; refine Calls.mono (H3.out _) ?_; rintro e w_ ⟨rfl, hb_⟩; replace HB := Lib.hid (HB.out.call hb_); clear hb_) | (go_at_call 12; refine Calls.mono (H4.out _) ?_; rintro e w_ ⟨rfl, hb_⟩; replace HB := Lib.hid (HB.out.call hb_); clear hb_) | (go_at_call 13; refine Calls.mono (H5.out _) ?_; rintro e w_ ⟨rfl, hb_⟩; replace HB := Lib.hid (HB.out.call hb_); clear hb_) | (go_at_call 14; refine Calls.mono (H6.out _) ?_; rintro e w_ ⟨rfl, hb_⟩; replace HB := Lib.hid (HB.out.call hb_); clear hb_))
  go_ret
  exact ⟨by simp, HB.out.below⟩

theorem parts_ok {r s i : Int} (h : Bm.V r s i) : Hid (∀ W, Calls Try.prog 11 #[.int .i64 (Bm.mk r s i)] W fun e w' => e = .returned (.tuple #[.int .i64 r, .int .i64 s, .int .i64 i, .bool true]) ∧ Below W.heap.size W w') := Lib.hid (fun W => by
  have h2 : -9223372036854775808 ≤ Bm.mk r s i ∧ Bm.mk r s i ≤ 9223372036854775807 := by unfold Bm.V at h; unfold Bm.mk; omega
  have := Parts_any (Bm.mk r s i) W h2
  unfold ptv at this
  rw [Bm.parts_mk h] at this
  exact this)
theorem mk_beq {r s i s' i' : Int} (h : Bm.V r s i) (h' : Bm.V r s' i') : (Bm.mk r s i == Bm.mk r s' i') = ((s == s') && (i == i')) := by
  by_cases e1 : s = s'
  · subst e1
    by_cases e2 : i = i'
    · subst e2; simp
    · have : ¬ Bm.mk r s i = Bm.mk r s i' := fun e => e2 (Bm.mk_inj h h' e).2.2
      rw [beq_false_of_ne this, beq_false_of_ne e2]; simp
  · have : ¬ Bm.mk r s i = Bm.mk r s' i' := fun e => e1 (Bm.mk_inj h h' e).2.1
    rw [beq_false_of_ne this, beq_false_of_ne e1]; rfl

set_option maxRecDepth 100000 in
set_option maxHeartbeats 1000000 in
theorem back_walk (a0 a1 a2 a3 a4 b : Int) (w : World) (w0 : (Lit.int .u32 a0).wf = true) (w1 : (Lit.int .u32 a1).wf = true) (w2 : (Lit.int .u8 a2).wf = true) (w3 : (Lit.int .u32 a3).wf = true) (w4 : (Lit.int .u8 a4).wf = true) (w5 : (Lit.int .i64 b).wf = true) :
    Calls Try.prog 4 #[.int .u32 a0, .int .u32 a1, .int .u8 a2, .int .u32 a3, .int .u8 a4, .int .i64 b] w fun e w' => e = .returned (.bool true) ∧ Below w.heap.size w w' := by
  have HB := Lib.hid (Bxs.start w)
  have hb := wf_i64 w5
  have u0 := wf_u32' w0
  have u1 := wf_u32' w1
  have u2 := wf_u8' w2
  have u3 := wf_u32' w3
  have u4 := wf_u8' w4
  obtain ⟨r, f0, r1, r2⟩ := rest_of u0.1 (n := 1073741824) (by decide)
  obtain ⟨s, f1, s1, s2⟩ := rest_of u1.1 (n := 1048576) (by decide)
  obtain ⟨i, f2, i1, i2⟩ := rest_of u2.1 (n := 16) (by decide)
  obtain ⟨o, f3, o1, o2⟩ := rest_of u3.1 (n := 1048576) (by decide)
  obtain ⟨m, f4, m1, m2⟩ := rest_of u4.1 (n := 16) (by decide)
  have g0 : IntKind.i64.wrap r = r := by rw [IntKind.wrap_i64]; omega
  have g1 : IntKind.i64.wrap s = s := by rw [IntKind.wrap_i64]; omega
  have g2 : IntKind.i64.wrap i = i := by rw [IntKind.wrap_i64]; omega
  have g3 : IntKind.i64.wrap o = o := by rw [IntKind.wrap_i64]; omega
  have g4 : IntKind.i64.wrap m = m := by rw [IntKind.wrap_i64]; omega
  have k0 : IntKind.u32.wrap r = r := by rw [IntKind.wrap_u32]; omega
  have k1 : IntKind.u32.wrap s = s := by rw [IntKind.wrap_u32]; omega
  have k2 : IntKind.u8.wrap i = i := by rw [IntKind.wrap_u8]; omega
  have k3 : IntKind.u32.wrap o = o := by rw [IntKind.wrap_u32]; omega
  have k4 : IntKind.u8.wrap m = m := by rw [IntKind.wrap_u8]; omega
  have v1 : Bm.V r s i := by unfold Bm.V; omega
  have v2 : Bm.V r o m := by unfold Bm.V; omega
  have H1 := mk_ok v1
  have H2 := mk_ok v2
  have HP := parts_ok v1
  have hq := mk_beq v1 v2
  have HPB : Hid (∀ W, Calls Try.prog 11 #[.int .i64 b] W fun e w' => e = .returned (ptv b) ∧ Below W.heap.size W w') := Lib.hid (fun W => Parts_any b W hb)
  have hz : (s == o) = true ∨ (s == o) = false := by cases (s == o) <;> simp
  clear w0 w1 w2 w3 w4 w5 hb u0 u1 u2 u3 u4 r1 r2 s1 s2 i1 i2 o1 o2 m1 m2 v1 v2
  generalize Bm.mk r s i = A at *
  generalize Bm.mk r o m = C at *
  by_cases hB : Bm.isB b
  · have hbp := Bm.mk_parts hB
    have H3 := mk_ok hbp.1
    rw [hbp.2] at H3
    have HQ : Hid (∀ W, Calls Try.prog 11 #[.int .i64 b] W fun e w' => e = .returned (.tuple #[.int .i64 (b / 16777216), .int .i64 (b / 16 % 1048576), .int .i64 (b % 16), .bool true]) ∧ Below W.heap.size W w') := Lib.hid (fun W => by have := HPB.out W; rwa [ptv_ok hB] at this)
    clear hbp hB HPB
    generalize b / 16777216 = x at *
    generalize b / 16 % 1048576 = y at *
    generalize b % 16 = z at *
    rcases hz with hz | hz
    all_goals
      rw [hz] at hq
      simp only [Bool.true_and, Bool.false_and] at hq
      go_enter Try.func4, Try.ntmps4
      go_wp2_with (first | (go_at_call 8; refine Calls.mono (head_any _) ?_; rintro e w_ ⟨rfl, hb_⟩; replace HB := Lib.hid (HB.out.call hb_); clear hb_) | (go_at_call 9; with_reducible refine Kx.args_gate #[.int .i64 r, .int .i64 s, .int .i64 i] ?_; refine Calls.mono (H1.out _) ?_; rintro e w_ ⟨rfl, hb_⟩; replace HB := Lib.hid (HB.out.call hb_); clear hb_) | (go_at_call 9; with_reducible refine Kx.args_gate #[.int .i64 r, .int .i64 o, .int .i64 m] ?_; refine Calls.mono (H2.out _) ?_; rintro e w_ ⟨rfl, hb_⟩; replace HB := Lib.hid (HB.out.call hb_); clear hb_) | (go_at_call 9; with_reducible refine Kx.args_gate #[.int .i64 x, .int .i64 y, .int .i64 z] ?_; refine Calls.mono (H3.out _) ?_; rintro e w_ ⟨rfl, hb_⟩; replace HB := Lib.hid (HB.out.call hb_); clear hb_) | (go_at_call 11; with_reducible refine Kx.args_gate #[.int .i64 A] ?_; refine Calls.mono (HP.out _) ?_; rintro e w_ ⟨rfl, hb_⟩; replace HB := Lib.hid (HB.out.call hb_); clear hb_) | (go_at_call 11; with_reducible refine Kx.args_gate #[.int .i64 b] ?_; refine Calls.mono (HQ.out _) ?_; rintro e w_ ⟨rfl, hb_⟩; replace HB := Lib.hid (HB.out.call hb_); clear hb_))
      go_ret
      exact ⟨by simp, HB.out.below⟩
  · have HQ : Hid (∀ W, Calls Try.prog 11 #[.int .i64 b] W fun e w' => e = .returned (.tuple #[.int .i64 0, .int .i64 0, .int .i64 0, .bool false]) ∧ Below W.heap.size W w') := Lib.hid (fun W => by have := HPB.out W; rwa [ptv_no hB] at this)
    clear hB HPB
    rcases hz with hz | hz
    all_goals
      rw [hz] at hq
      simp only [Bool.true_and, Bool.false_and] at hq
      go_enter Try.func4, Try.ntmps4
      go_wp2_with (first | (go_at_call 8; refine Calls.mono (head_any _) ?_; rintro e w_ ⟨rfl, hb_⟩; replace HB := Lib.hid (HB.out.call hb_); clear hb_) | (go_at_call 9; with_reducible refine Kx.args_gate #[.int .i64 r, .int .i64 s, .int .i64 i] ?_; refine Calls.mono (H1.out _) ?_; rintro e w_ ⟨rfl, hb_⟩; replace HB := Lib.hid (HB.out.call hb_); clear hb_) | (go_at_call 9; with_reducible refine Kx.args_gate #[.int .i64 r, .int .i64 o, .int .i64 m] ?_; refine Calls.mono (H2.out _) ?_; rintro e w_ ⟨rfl, hb_⟩; replace HB := Lib.hid (HB.out.call hb_); clear hb_) | (go_at_call 11; with_reducible refine Kx.args_gate #[.int .i64 A] ?_; refine Calls.mono (HP.out _) ?_; rintro e w_ ⟨rfl, hb_⟩; replace HB := Lib.hid (HB.out.call hb_); clear hb_) | (go_at_call 11; with_reducible refine Kx.args_gate #[.int .i64 b] ?_; refine Calls.mono (HQ.out _) ?_; rintro e w_ ⟨rfl, hb_⟩; replace HB := Lib.hid (HB.out.call hb_); clear hb_))
      go_ret
      exact ⟨by simp, HB.out.below⟩
end Go.Proofs.Ytpbogacodhjlfaa
