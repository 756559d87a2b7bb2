/- The other three laws of ballots, walked. -/
import Derived.Test.YtpbogacodhjlfaaLAll
namespace Go.Proofs.Ytpbogacodhjlfaa
open Go.RowKit Go.Shelf Km Kx
set_option linter.unusedVariables false

set_option maxRecDepth 100000 in
set_option maxHeartbeats 1000000 in
theorem next_walk (b a1 a2 a3 : Int) (w : World) (w0 : (Lit.int .i64 b).wf = true) (w1 : (Lit.int .u32 a1).wf = true) (w2 : (Lit.int .u8 a2).wf = true) (w3 : (Lit.int .u32 a3).wf = true) :
    Calls Try.prog 5 #[.int .i64 b, .int .u32 a1, .int .u8 a2, .int .u32 a3] w fun e w' => e = .returned (.bool true) ∧ Below w.heap.size w w' := by
  have HB := Lib.hid (Bxs.start w)
  have hb := wf_i64 w0
  have u1 := wf_u32' w1
  have u2 := wf_u8' w2
  have u3 := wf_u32' w3
  obtain ⟨s, f1, s1, s2⟩ := rest_of u1.1 (n := 1048576) (by decide)
  obtain ⟨i, f2, i1, i2⟩ := rest_of u2.1 (n := 16) (by decide)
  obtain ⟨r, f3, r1, r2⟩ := rest_of u3.1 (n := 1073741824) (by decide)
  have g1 : IntKind.i64.wrap s = s := by rw [IntKind.wrap_i64]; omega
  have g2 : IntKind.i64.wrap i = i := by rw [IntKind.wrap_i64]; omega
  have g3 : IntKind.i64.wrap r = r := by rw [IntKind.wrap_i64]; omega
  have k1 : IntKind.u32.wrap s = s := by rw [IntKind.wrap_u32]; omega
  have k2 : IntKind.u8.wrap i = i := by rw [IntKind.wrap_u8]; omega
  have k3 : IntKind.u32.wrap r = r := by rw [IntKind.wrap_u32]; omega
  have v0 : Bm.V 0 s i := by unfold Bm.V; omega
  have v1 : Bm.V r s i := by unfold Bm.V; omega
  have H1 := mk_ok v1
  have HN : Hid (Mkc 13 b s i (nxv b s i)) := Lib.hid (fun W => Next_any b s i W hb)
  clear w0 w1 w2 w3 u1 u2 u3 s1 s2 i1 i2 r1 r2 hb
  rcases nxv_of (b := b) v0 with ⟨q, vq, e, hlt, hall⟩ | ⟨e, hall⟩
  · have HP := parts_ok vq
    have hor := hall r v1
    rw [e] at HN
    clear e hall v0 v1 vq
    generalize Bm.mk r s i = M at *
    generalize Bm.mk q s i = N at *
    have d1 : decide (b < N) = true := decide_eq_true hlt
    by_cases q1 : M ≤ b
    · have d2 : decide (M ≤ b) = true := decide_eq_true q1
      clear hor hlt q1
      go_enter Try.func5, Try.ntmps5
      go_wp2_with (first | (go_at_call 8; refine Calls.mono (head_any _) ?_; rintro e w_ ⟨rfl, hb_⟩; replace HB := Lib.hid (HB.out.call hb_); clear hb_) | (go_at_call 9; refine Calls.mono (H1.out _) ?_; rintro e w_ ⟨rfl, hb_⟩; replace HB := Lib.hid (HB.out.call hb_); clear hb_) | (go_at_call 13; refine Calls.mono (HN.out _) ?_; rintro e w_ ⟨rfl, hb_⟩; replace HB := Lib.hid (HB.out.call hb_); clear hb_) | (go_at_call 11; refine Calls.mono (HP.out _) ?_; rintro e w_ ⟨rfl, hb_⟩; replace HB := Lib.hid (HB.out.call hb_); clear hb_))
      go_ret
      exact ⟨by simp, HB.out.below⟩
    · have d2 : decide (M ≤ b) = false := decide_eq_false q1
      have d3 : decide (N ≤ M) = true := decide_eq_true (by omega)
      clear hor hlt q1
      go_enter Try.func5, Try.ntmps5
      go_wp2_with (first | (go_at_call 8; refine Calls.mono (head_any _) ?_; rintro e w_ ⟨rfl, hb_⟩; replace HB := Lib.hid (HB.out.call hb_); clear hb_) | (go_at_call 9; refine Calls.mono (H1.out _) ?_; rintro e w_ ⟨rfl, hb_⟩; replace HB := Lib.hid (HB.out.call hb_); clear hb_) | (go_at_call 13; refine Calls.mono (HN.out _) ?_; rintro e w_ ⟨rfl, hb_⟩; replace HB := Lib.hid (HB.out.call hb_); clear hb_) | (go_at_call 11; refine Calls.mono (HP.out _) ?_; rintro e w_ ⟨rfl, hb_⟩; replace HB := Lib.hid (HB.out.call hb_); clear hb_))
      go_ret
      exact ⟨by simp, HB.out.below⟩
  · have hor := hall r v1
    rw [e] at HN
    clear e hall v0 v1
    generalize Bm.mk r s i = M at *
    have d2 : decide (M ≤ b) = true := decide_eq_true hor
    clear hor
    go_enter Try.func5, Try.ntmps5
    go_wp2_with (first | (go_at_call 8; refine Calls.mono (head_any _) ?_; rintro e w_ ⟨rfl, hb_⟩; replace HB := Lib.hid (HB.out.call hb_); clear hb_) | (go_at_call 9; refine Calls.mono (H1.out _) ?_; rintro e w_ ⟨rfl, hb_⟩; replace HB := Lib.hid (HB.out.call hb_); clear hb_) | (go_at_call 13; refine Calls.mono (HN.out _) ?_; rintro e w_ ⟨rfl, hb_⟩; replace HB := Lib.hid (HB.out.call hb_); clear hb_))
    go_ret
    exact ⟨by simp, HB.out.below⟩

set_option maxRecDepth 100000 in
set_option maxHeartbeats 1000000 in
theorem rounds_walk (a0 a1 a2 a3 a4 a5 : Int) (w : World) (w0 : (Lit.int .u32 a0).wf = true) (w1 : (Lit.int .u32 a1).wf = true) (w2 : (Lit.int .u8 a2).wf = true) (w3 : (Lit.int .u32 a3).wf = true) (w4 : (Lit.int .u32 a4).wf = true) (w5 : (Lit.int .u8 a5).wf = true) :
    Calls Try.prog 6 #[.int .u32 a0, .int .u32 a1, .int .u8 a2, .int .u32 a3, .int .u32 a4, .int .u8 a5] w fun e w' => e = .returned (.bool true) ∧ Below w.heap.size w w' := by
  have HB := Lib.hid (Bxs.start w)
  have u0 := wf_u32' w0
  have u1 := wf_u32' w1
  have u2 := wf_u8' w2
  have u3 := wf_u32' w3
  have u4 := wf_u32' w4
  have u5 := wf_u8' w5
  obtain ⟨r, f0, r1, r2⟩ := rest_of u0.1 (n := 1073741824) (by decide)
  obtain ⟨s, f1, s1, s2⟩ := rest_of u1.1 (n := 1048576) (by decide)
  obtain ⟨i, f2, i1, i2⟩ := rest_of u2.1 (n := 16) (by decide)
  obtain ⟨x, f3, x1, x2⟩ := rest_of u3.1 (n := 1073741824) (by decide)
  obtain ⟨y, f4, y1, y2⟩ := rest_of u4.1 (n := 1048576) (by decide)
  obtain ⟨z, f5, z1, z2⟩ := rest_of u5.1 (n := 16) (by decide)
  have g0 : IntKind.i64.wrap r = r := by rw [IntKind.wrap_i64]; omega
  have g1 : IntKind.i64.wrap s = s := by rw [IntKind.wrap_i64]; omega
  have g2 : IntKind.i64.wrap i = i := by rw [IntKind.wrap_i64]; omega
  have g3 : IntKind.i64.wrap x = x := by rw [IntKind.wrap_i64]; omega
  have g4 : IntKind.i64.wrap y = y := by rw [IntKind.wrap_i64]; omega
  have g5 : IntKind.i64.wrap z = z := by rw [IntKind.wrap_i64]; omega
  have k0 : IntKind.u32.wrap r = r := by rw [IntKind.wrap_u32]; omega
  have k1 : IntKind.u32.wrap s = s := by rw [IntKind.wrap_u32]; omega
  have k2 : IntKind.u8.wrap i = i := by rw [IntKind.wrap_u8]; omega
  have k3 : IntKind.u32.wrap x = x := by rw [IntKind.wrap_u32]; omega
  have k4 : IntKind.u32.wrap y = y := by rw [IntKind.wrap_u32]; omega
  have k5 : IntKind.u8.wrap z = z := by rw [IntKind.wrap_u8]; omega
  have v1 : Bm.V r s i := by unfold Bm.V; omega
  have v2 : Bm.V x y z := by unfold Bm.V; omega
  have H1 := mk_ok v1
  have H2 := mk_ok v2
  have hlt := Bm.mk_lt v1 v2
  have Hlt := Lib.hid hlt
  clear w0 w1 w2 w3 w4 w5 u0 u1 u2 u3 u4 u5 r1 r2 s1 s2 i1 i2 x1 x2 y1 y2 z1 z2 v1 v2 hlt
  generalize Bm.mk r s i = A at *
  generalize Bm.mk x y z = C at *
  by_cases e1 : r = x
  · have c1 : (r == x) = true := beq_iff_eq.2 e1
    by_cases e2 : s = y
    · have c2 : (s == y) = true := beq_iff_eq.2 e2
      have hd : decide (A < C) = decide (i < z) := by rw [decide_eq_decide, Hlt.out]; omega
      clear e1 e2 Hlt
      go_enter Try.func6, Try.ntmps6
      go_wp2_with (first | (go_at_call 8; refine Calls.mono (head_any _) ?_; rintro e w_ ⟨rfl, hb_⟩; replace HB := Lib.hid (HB.out.call hb_); clear hb_) | (go_at_call 9; with_reducible refine Kx.args_gate #[.int .i64 r, .int .i64 s, .int .i64 i] ?_; refine Calls.mono (H1.out _) ?_; rintro e w_ ⟨rfl, hb_⟩; replace HB := Lib.hid (HB.out.call hb_); clear hb_) | (go_at_call 9; with_reducible refine Kx.args_gate #[.int .i64 x, .int .i64 y, .int .i64 z] ?_; refine Calls.mono (H2.out _) ?_; rintro e w_ ⟨rfl, hb_⟩; replace HB := Lib.hid (HB.out.call hb_); clear hb_))
      go_ret
      exact ⟨by simp, HB.out.below⟩
    · have c2 : (s == y) = false := beq_false_of_ne e2
      have hd : decide (A < C) = decide (s < y) := by rw [decide_eq_decide, Hlt.out]; omega
      clear e1 e2 Hlt
      go_enter Try.func6, Try.ntmps6
      go_wp2_with (first | (go_at_call 8; refine Calls.mono (head_any _) ?_; rintro e w_ ⟨rfl, hb_⟩; replace HB := Lib.hid (HB.out.call hb_); clear hb_) | (go_at_call 9; with_reducible refine Kx.args_gate #[.int .i64 r, .int .i64 s, .int .i64 i] ?_; refine Calls.mono (H1.out _) ?_; rintro e w_ ⟨rfl, hb_⟩; replace HB := Lib.hid (HB.out.call hb_); clear hb_) | (go_at_call 9; with_reducible refine Kx.args_gate #[.int .i64 x, .int .i64 y, .int .i64 z] ?_; refine Calls.mono (H2.out _) ?_; rintro e w_ ⟨rfl, hb_⟩; replace HB := Lib.hid (HB.out.call hb_); clear hb_))
      go_ret
      exact ⟨by simp, HB.out.below⟩
  · have c1 : (r == x) = false := beq_false_of_ne e1
    have hd : decide (A < C) = decide (r < x) := by rw [decide_eq_decide, Hlt.out]; omega
    clear e1 Hlt
    go_enter Try.func6, Try.ntmps6
    go_wp2_with (first | (go_at_call 8; refine Calls.mono (head_any _) ?_; rintro e w_ ⟨rfl, hb_⟩; replace HB := Lib.hid (HB.out.call hb_); clear hb_) | (go_at_call 9; with_reducible refine Kx.args_gate #[.int .i64 r, .int .i64 s, .int .i64 i] ?_; refine Calls.mono (H1.out _) ?_; rintro e w_ ⟨rfl, hb_⟩; replace HB := Lib.hid (HB.out.call hb_); clear hb_) | (go_at_call 9; with_reducible refine Kx.args_gate #[.int .i64 x, .int .i64 y, .int .i64 z] ?_; refine Calls.mono (H2.out _) ?_; rintro e w_ ⟨rfl, hb_⟩; replace HB := Lib.hid (HB.out.call hb_); clear hb_))
    go_ret
    exact ⟨by simp, HB.out.below⟩

/-- how far the row of next ones has come -/
def Row (b s i : Int) (k : Nat) (x : Int) : Prop := (k = 0 ∧ x = b) ∨ (0 < k ∧ ∃ q, Bm.V q s i ∧ x = Bm.mk q s i)
theorem Row.next {b s i : Int} {k : Nat} {x : Int} (h : Row b s i k x) (hv : Bm.V 0 s i) (hb : -9223372036854775808 ≤ b ∧ b ≤ 9223372036854775807) :
    (∃ n, nxv x s i = .tuple #[.int .i64 n, .int .i64 0] ∧ Row b s i (k + 1) n ∧ x < n ∧ (k = 0 ∨ (n = x + 16777216 ∧ IntKind.i64.wrap (x + 16777216) = n))) ∨ (nxv x s i = .tuple #[.int .i64 0, .int .i64 2] ∧ 18014398492704768 ≤ x) := by
  have hno : ∀ x, nxv x s i = .tuple #[.int .i64 0, .int .i64 2] → 18014398492704768 ≤ x := fun x e => by
    refine (Bm.next_none (b := x) hv fun h0 => ?_).2
    unfold nxv at e
    rw [h0] at e
    simp at e
  rcases h with ⟨rfl, rfl⟩ | ⟨hk, q, hq, rfl⟩
  · rcases nxv_of (b := x) hv with ⟨n, hn, e, h1, -⟩ | ⟨e, -⟩
    · exact .inl ⟨_, e, .inr ⟨by omega, n, hn, rfl⟩, h1, .inl rfl⟩
    · exact .inr ⟨e, hno _ e⟩
  · rcases Bm.next_own hq with ⟨h1, e⟩ | ⟨-, e, h1⟩
    · have e2 : Bm.mk q s i + 16777216 = Bm.mk (q + 1) s i := by unfold Bm.mk; omega
      have e3 : IntKind.i64.wrap (Bm.mk q s i + 16777216) = Bm.mk q s i + 16777216 := by rw [IntKind.wrap_i64]; unfold Bm.V at hq; unfold Bm.mk; omega
      refine .inl ⟨Bm.mk q s i + 16777216, by unfold nxv; rw [e], .inr ⟨by omega, q + 1, h1, e2⟩, by omega, .inr ⟨rfl, e3⟩⟩
    · exact .inr ⟨by unfold nxv; rw [e], h1⟩
theorem Row.in {b s i : Int} {k : Nat} {x : Int} (h : Row b s i k x) (hb : -9223372036854775808 ≤ b ∧ b ≤ 9223372036854775807) : -9223372036854775808 ≤ x ∧ x ≤ 9223372036854775807 := by
  rcases h with ⟨-, rfl⟩ | ⟨-, q, hq, rfl⟩
  · exact hb
  · unfold Bm.V at hq; unfold Bm.mk; omega

set_option maxRecDepth 100000 in
set_option maxHeartbeats 1000000 in
theorem above_walk (b a1 a2 a3 : Int) (w : World) (w0 : (Lit.int .i64 b).wf = true) (w1 : (Lit.int .u32 a1).wf = true) (w2 : (Lit.int .u8 a2).wf = true) (w3 : (Lit.int .u8 a3).wf = true) :
    Calls Try.prog 7 #[.int .i64 b, .int .u32 a1, .int .u8 a2, .int .u8 a3] w fun e w' => e = .returned (.bool true) ∧ Below w.heap.size w w' := by
  have HB := Lib.hid (Bxs.start w)
  have hb := wf_i64 w0
  have u1 := wf_u32' w1
  have u2 := wf_u8' w2
  have u3 := wf_u8' w3
  obtain ⟨s, f1, s1, s2⟩ := rest_of u1.1 (n := 1048576) (by decide)
  obtain ⟨i, f2, i1, i2⟩ := rest_of u2.1 (n := 16) (by decide)
  obtain ⟨n0, f3, n1, n2⟩ := rest_of u3.1 (n := 20) (by decide)
  obtain ⟨n, rfl⟩ : ∃ n : Nat, n0 = (n : Int) := ⟨n0.toNat, by omega⟩
  have g1 : IntKind.i64.wrap s = s := by rw [IntKind.wrap_i64]; omega
  have g2 : IntKind.i64.wrap i = i := by rw [IntKind.wrap_i64]; omega
  have g3 : IntKind.i64.wrap (n : Int) = (n : Int) := by rw [IntKind.wrap_i64]; omega
  have k1 : IntKind.u32.wrap s = s := by rw [IntKind.wrap_u32]; omega
  have k2 : IntKind.u8.wrap i = i := by rw [IntKind.wrap_u8]; omega
  have k3 : IntKind.u8.wrap (n : Int) = (n : Int) := by rw [IntKind.wrap_u8]; omega
  have v0 : Bm.V 0 s i := by unfold Bm.V; omega
  have HV := Lib.hid v0
  have HI := Lib.hid hb
  clear w0 w1 w2 w3 u1 u2 u3 s1 s2 i1 i2 n1 hb v0
  go_enter Try.func7, Try.ntmps7
  go_wp2_with (go_at_call 8; refine Calls.mono (head_any _) ?_; rintro e w_ ⟨rfl, hb_⟩; replace HB := Lib.hid (HB.out.call hb_); clear hb_)
  go_loopg [12, 13] n (fun gh lx ix wr => ∃ (k : Nat) (x : Int), gh + k = n ∧ lx = .int .i64 x ∧ ix = .int .i64 (k : Int) ∧ Hid (Row b s i k x) ∧ Hid (Bxs w wr []))
  case atStart => exact ⟨0, b, by omega, rfl, rfl, Lib.hid (.inl ⟨rfl, rfl⟩), HB⟩
  case round =>
    clear HB
    obtain ⟨k, x, hk, rfl, rfl, HS, HB⟩ := hrel
    by_cases hlt : k < n
    · have d3 : (k : Int) < (n : Int) := by omega
      have hN : ∀ W, Calls Try.prog 13 #[.int .i64 x, .int .i64 s, .int .i64 i] W fun e w' => e = .returned (nxv x s i) ∧ Below W.heap.size W w' := fun W => Next_any x s i W (HS.out.in HI.out)
      rcases HS.out.next HV.out HI.out with ⟨m, e, hr, hxm, ho⟩ | ⟨e, hx⟩
      · rw [e] at hN
        have HN := Lib.hid hN
        have HR := Lib.hid hr
        have d1 : decide (m ≤ x) = false := decide_eq_false (by omega)
        clear hN hr hxm e HS
        rcases ho with rfl | ⟨ho1, ho2⟩
        · have HN2 := HN
          go_wp2_with (go_at_call 13; refine Calls.mono (HN.out _) ?_; rintro e w_ ⟨rfl, hb_⟩; replace HB := Lib.hid (HB.out.call hb_); clear hb_)
          go_roundg (gk - 1)
          case measure => omega
          case rel => exact ⟨1, m, by omega, rfl, rfl, HR, HB⟩
        · clear ho1
          by_cases hk0 : 0 < k
          · have d4 : decide (0 < (k : Int)) = true := decide_eq_true (by omega)
            go_wp2_with (go_at_call 13; refine Calls.mono (HN.out _) ?_; rintro e w_ ⟨rfl, hb_⟩; replace HB := Lib.hid (HB.out.call hb_); clear hb_)
            go_roundg (gk - 1)
            case measure => omega
            case rel => exact ⟨k + 1, m, by omega, rfl, by go_num, HR, HB⟩
          · obtain rfl : k = 0 := by omega
            go_wp2_with (go_at_call 13; refine Calls.mono (HN.out _) ?_; rintro e w_ ⟨rfl, hb_⟩; replace HB := Lib.hid (HB.out.call hb_); clear hb_)
            go_roundg (gk - 1)
            case measure => omega
            case rel => exact ⟨1, m, by omega, rfl, rfl, HR, HB⟩
      · rw [e] at hN
        have HN := Lib.hid hN
        have d1 : decide (18014398492704768 ≤ x) = true := decide_eq_true hx
        clear hN hx e HS
        go_wp2_with (go_at_call 13; refine Calls.mono (HN.out _) ?_; rintro e w_ ⟨rfl, hb_⟩; replace HB := Lib.hid (HB.out.call hb_); clear hb_)
        go_ret
        exact ⟨by simp, HB.out.below⟩
    · obtain rfl : k = n := by omega
      have d0 : decide ((k : Int) < (k : Int)) = false := by simp
      clear HS
      go_wp2
      go_ret
      exact ⟨by simp, HB.out.below⟩
end Go.Proofs.Ytpbogacodhjlfaa
