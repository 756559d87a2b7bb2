/- The next ballot: the program's and the document's; the live question. -/
import Derived.Test.YtpbogacodhjlfaaBb
namespace Go.Proofs.Ytpbogacodhjlfaa
open Go.RowKit Go.Shelf Km Kx

theorem nxv_bad {b s i : Int} (h : ¬ Bm.V 0 s i) : nxv b s i = .tuple #[.int .i64 0, .int .i64 1] := by unfold nxv Bm.next; rw [if_pos h]
theorem nxv_low {b s i : Int} (h : Bm.V 0 s i) (h1 : b < Bm.mk 0 s i) : nxv b s i = .tuple #[.int .i64 (Bm.mk 0 s i), .int .i64 0] := by unfold nxv Bm.next; rw [if_neg (by simpa using h), if_pos h1]
theorem nxv_of {b s i : Int} (h : Bm.V 0 s i) : (∃ q, Bm.V q s i ∧ nxv b s i = .tuple #[.int .i64 (Bm.mk q s i), .int .i64 0] ∧ b < Bm.mk q s i ∧ ∀ p, Bm.V p s i → Bm.mk p s i ≤ b ∨ Bm.mk q s i ≤ Bm.mk p s i) ∨ (nxv b s i = .tuple #[.int .i64 0, .int .i64 2] ∧ ∀ p, Bm.V p s i → Bm.mk p s i ≤ b) := by
  unfold nxv
  rcases Bm.next_cases b h with ⟨q, h1, e, h2⟩ | ⟨e, h2⟩
  · exact .inl ⟨q, h1, by rw [e], h2⟩
  · exact .inr ⟨by rw [e], h2⟩
theorem nxv_round {b s i : Int} (h : Bm.V 0 s i) (h1 : ¬ b < Bm.mk 0 s i) (h2 : (b - Bm.mk 0 s i) / 16777216 + 1 < 1073741824) :
    Bm.V ((b - Bm.mk 0 s i) / 16777216 + 1) s i ∧ nxv b s i = .tuple #[.int .i64 (Bm.mk ((b - Bm.mk 0 s i) / 16777216 + 1) s i), .int .i64 0] := by
  obtain ⟨r, hr⟩ : ∃ r, (b - Bm.mk 0 s i) / 16777216 + 1 = r := ⟨_, rfl⟩
  rw [hr] at h2 ⊢
  have hm : ∀ q, Bm.mk q s i = q * 16777216 + Bm.mk 0 s i := fun q => by unfold Bm.mk; omega
  have hv : Bm.V r s i := by unfold Bm.V at h ⊢; omega
  refine ⟨hv, ?_⟩
  rcases nxv_of (b := b) h with ⟨q, h3, e, h4, h5⟩ | ⟨e, h5⟩
  · have h6 := h5 r hv
    have h7 : q = r := by
      rw [hm q] at h4 h6
      rw [hm r] at h6
      unfold Bm.V at h3
      by_cases hq : r ≤ q
      · omega
      · exfalso; omega
    subst h7
    exact e
  · have h6 := h5 r hv
    rw [hm r] at h6
    omega
theorem nxv_many {b s i : Int} (h : Bm.V 0 s i) (_ : ¬ b < Bm.mk 0 s i) (h2 : 1073741824 ≤ (b - Bm.mk 0 s i) / 16777216 + 1) : nxv b s i = .tuple #[.int .i64 0, .int .i64 2] := by
  have hm : ∀ q, Bm.mk q s i = q * 16777216 + Bm.mk 0 s i := fun q => by unfold Bm.mk; omega
  rcases nxv_of (b := b) h with ⟨q, h3, e, h4, h5⟩ | ⟨e, h5⟩
  · exfalso
    rw [hm q] at h4
    unfold Bm.V at h3
    omega
  · exact e

/-- a call of two results -/
abbrev Mkc (f : FuncId) (r s i : Int) (v : Value) : Prop := ∀ W, Calls Try.prog f #[.int .i64 r, .int .i64 s, .int .i64 i] W fun e w' => e = .returned v ∧ Below W.heap.size W w'
theorem mk_ok {r s i : Int} (h : Bm.V r s i) : Hid (Mkc 9 r s i (.tuple #[.int .i64 (Bm.mk r s i), .int .i64 0])) := Lib.hid (fun W => by have := Make_any r s i W; rwa [Bm.make_ok h] at this)
theorem mk_no {r s i : Int} (h : ¬ Bm.V r s i) : Hid (Mkc 9 r s i (.tuple #[.int .i64 0, .int .i64 1])) := Lib.hid (fun W => by have := Make_any r s i W; rwa [Bm.make_no h] at this)
theorem rmk_ok {r s i : Int} (h : Bm.V r s i) : Hid (Mkc 10 r s i (.tuple #[.int .i64 (Bm.mk r s i), .int .i64 0])) := Lib.hid (fun W => by have := RMake_any r s i W; rwa [mkv_ok h] at this)
theorem rmk_no {r s i : Int} (h : ¬ Bm.V r s i) : Hid (Mkc 10 r s i (.tuple #[.int .i64 0, .int .i64 1])) := Lib.hid (fun W => by have := RMake_any r s i W; rwa [mkv_no h] at this)

set_option maxRecDepth 100000 in
set_option maxHeartbeats 1000000 in
theorem Next_any (b s i : Int) (w : World) (hb : -9223372036854775808 ≤ b ∧ b ≤ 9223372036854775807) : Calls Try.prog 13 #[.int .i64 b, .int .i64 s, .int .i64 i] w fun e w' => e = .returned (nxv b s i) ∧ Below w.heap.size w w' := by
  have HB := Lib.hid (Bxs.start w)
  obtain ⟨b1, b2⟩ := hb
  by_cases h0 : Bm.V 0 s i
  case neg =>
    have H0 := mk_no h0
    have HE := Lib.hid (nxv_bad (b := b) h0)
    clear h0 b1 b2
    go_enter Try.func13, Try.ntmps13
    go_wp2_with (go_at_call 9; refine Calls.mono (H0.out _) ?_; rintro e w_ ⟨rfl, hb_⟩; replace HB := Lib.hid (HB.out.call hb_); clear hb_)
    go_ret2
    exact ⟨by rw [HE.out]; rfl, HB.out.below⟩
  case pos =>
    have H0 := mk_ok h0
    have HL := Lib.hid (nxv_low (b := b) h0)
    have HR := Lib.hid (nxv_round (b := b) h0)
    have HM := Lib.hid (nxv_many (b := b) h0)
    have hin : 0 ≤ Bm.mk 0 s i ∧ Bm.mk 0 s i < 16777216 := by unfold Bm.V at h0; unfold Bm.mk; omega
    obtain ⟨f1, f2⟩ := hin
    clear h0
    obtain ⟨f, hf⟩ : ∃ f, Bm.mk 0 s i = f := ⟨_, rfl⟩
    rw [hf] at H0 HL HR HM f1 f2
    clear hf
    by_cases q1 : b < f
    · have HE := Lib.hid (HL.out q1)
      have d1 : decide (b < f) = true := decide_eq_true q1
      clear HL HR HM b1 b2 f1 f2 q1
      go_enter Try.func13, Try.ntmps13
      go_wp2_with (go_at_call 9; refine Calls.mono (H0.out _) ?_; rintro e w_ ⟨rfl, hb_⟩; replace HB := Lib.hid (HB.out.call hb_); clear hb_)
      go_ret2
      exact ⟨by rw [HE.out]; rfl, HB.out.below⟩
    · have d1 : decide (b < f) = false := decide_eq_false q1
      have HR1 := HR.out q1
      have HM1 := HM.out q1
      clear HR HM
      obtain ⟨r1, e1⟩ : ∃ r1, b - f = r1 := ⟨_, rfl⟩
      obtain ⟨r0, e0⟩ : ∃ r0, r1 / 16777216 = r0 := ⟨_, rfl⟩
      obtain ⟨r, er⟩ : ∃ r, r0 + 1 = r := ⟨_, rfl⟩
      have g1 : IntKind.i64.wrap (b - f) = r1 := by rw [IntKind.wrap_i64]; omega
      have g2 : r1.tdiv 16777216 = r0 := by rw [Int.tdiv_eq_ediv_of_nonneg (by omega)]; exact e0
      have g3 : IntKind.i64.wrap r0 = r0 := by rw [IntKind.wrap_i64]; omega
      have g4 : IntKind.i64.wrap (r0 + 1) = r := by rw [IntKind.wrap_i64]; omega
      rw [e1, e0, er] at HR1 HM1
      replace HR1 := Lib.hid HR1
      replace HM1 := Lib.hid HM1
      clear e1 e0 er
      by_cases q2 : 1073741824 ≤ r
      · have HE := Lib.hid (HM1.out q2)
        have d2 : decide (1073741824 ≤ r) = true := decide_eq_true q2
        clear HL HR1 HM1 b1 b2 f1 f2 q1 q2
        go_enter Try.func13, Try.ntmps13
        go_wp2_with (go_at_call 9; refine Calls.mono (H0.out _) ?_; rintro e w_ ⟨rfl, hb_⟩; replace HB := Lib.hid (HB.out.call hb_); clear hb_)
        go_ret2
        exact ⟨by rw [HE.out]; rfl, HB.out.below⟩
      · obtain ⟨hv, he⟩ := HR1.out (by omega)
        have HE := Lib.hid he
        have H1 := mk_ok hv
        have d2 : decide (1073741824 ≤ r) = false := decide_eq_false q2
        clear HL HR1 HM1 b1 b2 f1 f2 q1 q2 he hv
        go_enter Try.func13, Try.ntmps13
        go_wp2_with (first | (go_at_call 9; with_reducible refine Kx.args_gate #[.int .i64 0, _, _] ?_; refine Calls.mono (H0.out _) ?_; rintro e w_ ⟨rfl, hb_⟩; replace HB := Lib.hid (HB.out.call hb_); clear hb_) | (go_at_call 9; with_reducible refine Kx.args_gate #[.int .i64 r, _, _] ?_; refine Calls.mono (H1.out _) ?_; rintro e w_ ⟨rfl, hb_⟩; replace HB := Lib.hid (HB.out.call hb_); clear hb_))
        go_ret2
        exact ⟨by rw [HE.out]; rfl, HB.out.below⟩

set_option maxRecDepth 100000 in
set_option maxHeartbeats 1000000 in
theorem RNext_any (b s i : Int) (w : World) (hb : -9223372036854775808 ≤ b ∧ b ≤ 9223372036854775807) : Calls Try.prog 14 #[.int .i64 b, .int .i64 s, .int .i64 i] w fun e w' => e = .returned (nxv b s i) ∧ Below w.heap.size w w' := by
  have HB := Lib.hid (Bxs.start w)
  have HP : Hid (∀ W, Calls Try.prog 12 #[.int .i64 b] W fun e w' => e = .returned (ptv b) ∧ Below W.heap.size W w') := Lib.hid (fun W => RParts_any b W hb)
  obtain ⟨b1, b2⟩ := hb
  by_cases h0 : Bm.V 0 s i
  case neg =>
    have H0 := rmk_no h0
    have HE := Lib.hid (nxv_bad (b := b) h0)
    clear h0 b1 b2
    go_enter Try.func14, Try.ntmps14
    go_wp2_with (go_at_call 10; refine Calls.mono (H0.out _) ?_; rintro e w_ ⟨rfl, hb_⟩; replace HB := Lib.hid (HB.out.call hb_); clear hb_)
    go_ret2
    exact ⟨by rw [HE.out]; rfl, HB.out.below⟩
  case pos =>
    have H0 := rmk_ok h0
    by_cases q1 : b < Bm.mk 0 s i
    · have HE := Lib.hid (nxv_low (b := b) h0 q1)
      have d1 : decide (b < Bm.mk 0 s i) = true := decide_eq_true q1
      clear h0 b1 b2 q1
      generalize Bm.mk 0 s i = f at *
      go_enter Try.func14, Try.ntmps14
      go_wp2_with (go_at_call 10; refine Calls.mono (H0.out _) ?_; rintro e w_ ⟨rfl, hb_⟩; replace HB := Lib.hid (HB.out.call hb_); clear hb_)
      go_ret2
      exact ⟨by rw [HE.out]; rfl, HB.out.below⟩
    · have d1 : decide (b < Bm.mk 0 s i) = false := decide_eq_false q1
      by_cases q2 : Bm.isB b
      case neg =>
        have he : nxv b s i = .tuple #[.int .i64 0, .int .i64 2] := by unfold nxv Bm.next; rw [if_neg (by simpa using h0), if_neg q1, if_pos q2]
        have HE := Lib.hid he
        have HQ : Hid (∀ W, Calls Try.prog 12 #[.int .i64 b] W fun e w' => e = .returned (.tuple #[.int .i64 0, .int .i64 0, .int .i64 0, .bool false]) ∧ Below W.heap.size W w') := Lib.hid (fun W => by have := HP.out W; rwa [ptv_no q2] at this)
        clear h0 b1 b2 q1 q2 he HP
        generalize Bm.mk 0 s i = f at *
        go_enter Try.func14, Try.ntmps14
        go_wp2_with (first | (go_at_call 10; with_reducible refine Kx.args_gate #[.int .i64 0, _, _] ?_; refine Calls.mono (H0.out _) ?_; rintro e w_ ⟨rfl, hb_⟩; replace HB := Lib.hid (HB.out.call hb_); clear hb_) | (go_at_call 12; refine Calls.mono (HQ.out _) ?_; rintro e w_ ⟨rfl, hb_⟩; replace HB := Lib.hid (HB.out.call hb_); clear hb_))
        go_ret2
        exact ⟨by rw [HE.out]; rfl, HB.out.below⟩
      case pos =>
        have HQ : Hid (∀ W, Calls Try.prog 12 #[.int .i64 b] W fun e w' => e = .returned (.tuple #[.int .i64 (b / 16777216), .int .i64 (b / 16 % 1048576), .int .i64 (b % 16), .bool true]) ∧ Below W.heap.size W w') := Lib.hid (fun W => by have := HP.out W; rwa [ptv_ok q2] at this)
        have hv : Bm.V (b / 16777216) s i := by unfold Bm.isB at q2; unfold Bm.V at h0 ⊢; omega
        have H1 := rmk_ok hv
        have g1 : IntKind.i64.wrap (b / 16777216 + 1) = b / 16777216 + 1 := by unfold Bm.isB at q2; rw [IntKind.wrap_i64]; omega
        have HG := Lib.hid g1
        clear g1
        by_cases q3 : b < Bm.mk (b / 16777216) s i
        · have he : nxv b s i = .tuple #[.int .i64 (Bm.mk (b / 16777216) s i), .int .i64 0] := by unfold nxv Bm.next; rw [if_neg (by simpa using h0), if_neg q1, if_neg (by simpa using q2), if_pos q3]
          have HE := Lib.hid he
          have d3 : decide (b < Bm.mk (b / 16777216) s i) = true := decide_eq_true q3
          clear h0 b1 b2 q1 q2 q3 he HP hv
          generalize Bm.mk 0 s i = f at *
          generalize Bm.mk (b / 16777216) s i = f1 at *
          generalize b / 16777216 = r at *
          generalize b / 16 % 1048576 = r2 at *
          generalize b % 16 = r3 at *
          go_enter Try.func14, Try.ntmps14
          go_wp2_with (first | (go_at_call 10; with_reducible refine Kx.args_gate #[.int .i64 0, _, _] ?_; refine Calls.mono (H0.out _) ?_; rintro e w_ ⟨rfl, hb_⟩; replace HB := Lib.hid (HB.out.call hb_); clear hb_) | (go_at_call 12; refine Calls.mono (HQ.out _) ?_; rintro e w_ ⟨rfl, hb_⟩; replace HB := Lib.hid (HB.out.call hb_); clear hb_) | (go_at_call 10; with_reducible refine Kx.args_gate #[.int .i64 r, _, _] ?_; refine Calls.mono (H1.out _) ?_; rintro e w_ ⟨rfl, hb_⟩; replace HB := Lib.hid (HB.out.call hb_); clear hb_))
          go_ret2
          exact ⟨by rw [HE.out]; rfl, HB.out.below⟩
        · have d3 : decide (b < Bm.mk (b / 16777216) s i) = false := decide_eq_false q3
          by_cases q4 : Bm.V (b / 16777216 + 1) s i
          · have he : nxv b s i = .tuple #[.int .i64 (Bm.mk (b / 16777216 + 1) s i), .int .i64 0] := by unfold nxv Bm.next; rw [if_neg (by simpa using h0), if_neg q1, if_neg (by simpa using q2), if_neg q3, if_pos q4]
            have HE := Lib.hid he
            have H2 := rmk_ok q4
            clear h0 b1 b2 q1 q2 q3 q4 he HP hv
            generalize Bm.mk 0 s i = f at *
            generalize Bm.mk (b / 16777216) s i = f1 at *
            generalize Bm.mk (b / 16777216 + 1) s i = f2 at *
            obtain ⟨rr, err⟩ : ∃ rr, b / 16777216 + 1 = rr := ⟨_, rfl⟩
            have g1 : IntKind.i64.wrap (b / 16777216 + 1) = rr := by rw [HG.out]; exact err
            rw [err] at H2
            clear err HG
            generalize b / 16777216 = r at *
            generalize b / 16 % 1048576 = r2 at *
            generalize b % 16 = r3 at *
            go_enter Try.func14, Try.ntmps14
            go_wp2_with (first | (go_at_call 10; with_reducible refine Kx.args_gate #[.int .i64 0, _, _] ?_; refine Calls.mono (H0.out _) ?_; rintro e w_ ⟨rfl, hb_⟩; replace HB := Lib.hid (HB.out.call hb_); clear hb_) | (go_at_call 12; refine Calls.mono (HQ.out _) ?_; rintro e w_ ⟨rfl, hb_⟩; replace HB := Lib.hid (HB.out.call hb_); clear hb_) | (go_at_call 10; with_reducible refine Kx.args_gate #[.int .i64 r, _, _] ?_; refine Calls.mono (H1.out _) ?_; rintro e w_ ⟨rfl, hb_⟩; replace HB := Lib.hid (HB.out.call hb_); clear hb_) | (go_at_call 10; with_reducible refine Kx.args_gate #[.int .i64 rr, _, _] ?_; refine Calls.mono (H2.out _) ?_; rintro e w_ ⟨rfl, hb_⟩; replace HB := Lib.hid (HB.out.call hb_); clear hb_))
            go_ret2
            exact ⟨by rw [HE.out]; rfl, HB.out.below⟩
          · have he : nxv b s i = .tuple #[.int .i64 0, .int .i64 2] := by unfold nxv Bm.next; rw [if_neg (by simpa using h0), if_neg q1, if_neg (by simpa using q2), if_neg q3, if_neg q4]
            have HE := Lib.hid he
            have H2 := rmk_no q4
            clear h0 b1 b2 q1 q2 q3 q4 he HP hv
            generalize Bm.mk 0 s i = f at *
            generalize Bm.mk (b / 16777216) s i = f1 at *
            obtain ⟨rr, err⟩ : ∃ rr, b / 16777216 + 1 = rr := ⟨_, rfl⟩
            have g1 : IntKind.i64.wrap (b / 16777216 + 1) = rr := by rw [HG.out]; exact err
            rw [err] at H2
            clear err HG
            generalize b / 16777216 = r at *
            generalize b / 16 % 1048576 = r2 at *
            generalize b % 16 = r3 at *
            go_enter Try.func14, Try.ntmps14
            go_wp2_with (first | (go_at_call 10; with_reducible refine Kx.args_gate #[.int .i64 0, _, _] ?_; refine Calls.mono (H0.out _) ?_; rintro e w_ ⟨rfl, hb_⟩; replace HB := Lib.hid (HB.out.call hb_); clear hb_) | (go_at_call 12; refine Calls.mono (HQ.out _) ?_; rintro e w_ ⟨rfl, hb_⟩; replace HB := Lib.hid (HB.out.call hb_); clear hb_) | (go_at_call 10; with_reducible refine Kx.args_gate #[.int .i64 r, _, _] ?_; refine Calls.mono (H1.out _) ?_; rintro e w_ ⟨rfl, hb_⟩; replace HB := Lib.hid (HB.out.call hb_); clear hb_) | (go_at_call 10; with_reducible refine Kx.args_gate #[.int .i64 rr, _, _] ?_; refine Calls.mono (H2.out _) ?_; rintro e w_ ⟨rfl, hb_⟩; replace HB := Lib.hid (HB.out.call hb_); clear hb_))
            go_ret2
            exact ⟨by rw [HE.out]; rfl, HB.out.below⟩

set_option maxRecDepth 100000 in
theorem head_any (w : World) : Calls Try.prog 8 #[] w fun e w' => e = .returned (.bool true) ∧ Below w.heap.size w w' := by
  have HB := Lib.hid (Bxs.start w)
  have H1 : Hid (Mkc 9 1 2 3 (.tuple #[.int .i64 16777251, .int .i64 0])) := mk_ok (r := 1) (s := 2) (i := 3) (by decide)
  have H2 : Hid (Mkc 13 0 0 0 (.tuple #[.int .i64 16777216, .int .i64 0])) := Lib.hid (fun W => by
    have := Next_any 0 0 0 W (by decide)
    have e : nxv 0 0 0 = .tuple #[.int .i64 16777216, .int .i64 0] := by
      have e2 : Bm.next 0 0 0 = (16777216, 0) := by decide
      unfold nxv
      rw [e2]
    rwa [e] at this)
  go_enter Try.func8, Try.ntmps8
  go_wp2_with (first | (go_at_call 9; refine Calls.mono (H1.out _) ?_; rintro e w_ ⟨rfl, hb_⟩; replace HB := Lib.hid (HB.out.call hb_); clear hb_) | (go_at_call 13; refine Calls.mono (H2.out _) ?_; rintro e w_ ⟨rfl, hb_⟩; replace HB := Lib.hid (HB.out.call hb_); clear hb_))
  go_ret
  exact ⟨rfl, HB.out.below⟩
end Go.Proofs.Ytpbogacodhjlfaa
