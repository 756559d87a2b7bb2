/- TallyOne, walked. -/
import Derived.Test.YtpchkhphpcopkaaLAll
import Derived.Laws.BitsAllLaws
namespace Go.Proofs.Ytpchkhphpcopkaa
open Go.RowKit Go.Shelf Km Kx

theorem in64_0 : in64 0 := ⟨by decide, by decide⟩
theorem in64_1 : in64 1 := ⟨by decide, by decide⟩
theorem wl_two {a b : Nat} (ha : a < 18446744073709551616) (hb : b < 18446744073709551616) {now : Int} (h : in64 now) : Wl [⟨0, a, now⟩, ⟨1, b, now⟩] := fun v hv => by
  rcases List.mem_cons.1 hv with rfl | hv
  · exact ⟨in64_0, ha, h⟩
  · rw [List.mem_singleton] at hv
    subst hv
    exact ⟨in64_1, hb, h⟩
theorem wl_one {a : Nat} (ha : a < 18446744073709551616) {now : Int} (h : in64 now) : Wl [⟨0, a, now⟩] := fun v hv => by
  rw [List.mem_singleton] at hv
  subst hv
  exact ⟨in64_0, ha, h⟩

set_option maxRecDepth 100000 in
set_option maxHeartbeats 4000000 in
theorem one_walk (a0 a1 a2 : Int) (w : World) (w0 : (Lit.int .u64 a0).wf = true) (w1 : (Lit.int .u64 a1).wf = true) (w2 : (Lit.int .u16 a2).wf = true) :
    Calls Try.prog 8 #[.int .u64 a0, .int .u64 a1, .int .u16 a2] w fun e w' => e = .returned (.bool true) ∧ Below w.heap.size w w' := by
  have HB := Lib.hid (Bxs.start w)
  obtain ⟨p0, q0⟩ := wf_u64 w0
  obtain ⟨p1, q1⟩ := wf_u64 w1
  obtain ⟨p2, q2⟩ := wf_one (lo := 0) (hi := 65535) rfl rfl w2
  obtain ⟨a, rfl⟩ : ∃ a : Nat, a0 = (a : Int) := ⟨a0.toNat, by omega⟩
  obtain ⟨b, rfl⟩ : ∃ b : Nat, a1 = (b : Int) := ⟨a1.toNat, by omega⟩
  have ha : a < 18446744073709551616 := by omega
  have hb : b < 18446744073709551616 := by omega
  have hi : in64 a2 := ⟨by omega, by omega⟩
  have h1 := Tm.one_one ha (now := a2) ⟨p2, q2⟩
  have h2 := Tm.one_two a (now := a2) ⟨p2, q2⟩
  have h3 := Tm.two_two (c := b) ha (now := a2) ⟨p2, q2⟩ (n := 2) (.inl rfl)
  have h4 := Tm.two_two (c := b) ha (now := a2) ⟨p2, q2⟩ (n := 3) (.inr rfl)
  have h5 := Tm.two_four a b (now := a2) ⟨p2, q2⟩
  have hand : bits BinOp.and IntKind.u64 (a : Int) (b : Int) = ((a &&& b : Nat) : Int) := u64_and_nat a b ha hb
  generalize a &&& b = c at *
  clear w0 w1 w2
  go_enter Try.func8, Try.ntmps8
  go_wp2_with (first | (go_at_call 9; refine Calls.mono (head_any _) ?_; rintro e w_ ⟨rfl, hb_⟩; replace HB := Lib.hid (HB.out.call hb_); clear hb_) | ((with_reducible refine Kx.build_gate ?_); refine Km.wpList_build rfl 25 _ rfl #[(0, .int .i64 0), (1, .int .u64 (a : Int)), (2, .int .i64 a2)] rfl (vv ⟨0, a, a2⟩).toArray (builtv 0 a a2) ?_; refine Kx.framed ?_ (by simp only [Act.put, List.setIfInBounds_toArray, List.set_cons_succ, List.set_cons_zero] <;> rfl)) | (go_at_call 11; fail))
  refine (Put_as [⟨0, a, a2⟩] 1 none 0 0 _ [] ⟨0, a, a2⟩ _ (Rd.nil _ _ _) (Nat.le_refl _) rfl (by decide) rfl rfl).mono ?_
  rintro e w1 ⟨A1, c1, rfl, hb_, ho_⟩
  replace HB := Lib.hid (HB.out.callRow hb_ ho_)
  clear hb_ ho_
  go_wp2_with (first | ((with_reducible refine Kx.build_gate ?_); refine Km.wpList_build rfl 25 _ rfl #[(0, .int .i64 1), (1, .int .u64 (b : Int)), (2, .int .i64 a2)] rfl (vv ⟨1, b, a2⟩).toArray (builtv 1 b a2) ?_; refine Kx.framed ?_ (by simp only [Act.put, List.setIfInBounds_toArray, List.set_cons_succ, List.set_cons_zero] <;> rfl)) | (go_at_call 11; fail))
  refine (Put_as [⟨0, a, a2⟩, ⟨1, b, a2⟩] 2 A1 1 c1 _ [⟨0, a, a2⟩] ⟨1, b, a2⟩ _ (HB.out.rowRd (A := A1)) (Nat.le_refl _) rfl (by decide) rfl rfl).mono ?_
  rintro e w2 ⟨A2, c2, rfl, hb_, ho_⟩
  replace HB := Lib.hid (HB.out.callRow hb_ ho_)
  clear hb_ ho_
  have T1 : Hid (∀ (n : Int) (r : Nat), in64 n → Tm.tally [⟨0, a, a2⟩] n a2 0 = r → ∀ W, Rd W W.heap.size A1 (vvs [⟨0, a, a2⟩]) → Calls Try.prog 13 #[.slice A1 1 c1, .int .i64 n, .int .i64 a2, .int .i64 0] W fun e w' => e = .returned (.int .u64 (r : Int)) ∧ Below W.heap.size W w') := Lib.hid (fun n r hn e W hr => by
    have h := Tally_any A1 1 c1 _ _ n a2 0 W hr (Nat.le_refl _) rfl (by decide) (wl_one ha hi) hn
    rw [e] at h; exact h)
  have T2 : Hid (∀ (n : Int) (r : Nat), in64 n → Tm.tally [⟨0, a, a2⟩, ⟨1, b, a2⟩] n a2 0 = r → ∀ W, Rd W W.heap.size A2 (vvs [⟨0, a, a2⟩, ⟨1, b, a2⟩]) → Calls Try.prog 13 #[.slice A2 2 c2, .int .i64 n, .int .i64 a2, .int .i64 0] W fun e w' => e = .returned (.int .u64 (r : Int)) ∧ Below W.heap.size W w') := Lib.hid (fun n r hn e W hr => by
    have h := Tally_any A2 2 c2 _ _ n a2 0 W hr (Nat.le_refl _) rfl (by decide) (wl_two ha hb hi) hn
    rw [e] at h; exact h)
  have X1 := Lib.hid (T1.out 1 a ⟨by decide, by decide⟩ h1)
  have X2 := Lib.hid (T1.out 2 0 ⟨by decide, by decide⟩ h2)
  have X3 := Lib.hid (T2.out 2 c ⟨by decide, by decide⟩ h3)
  have X4 := Lib.hid (T2.out 3 c ⟨by decide, by decide⟩ h4)
  have X5 := Lib.hid (T2.out 4 0 ⟨by decide, by decide⟩ h5)
  clear T1 T2 h1 h2 h3 h4 h5 hi
  go_wp2_with (first | (go_at_call 13; with_reducible refine Kx.args_gate #[.slice _ 1 _, .int .i64 1, _, _] ?_; refine Calls.mono (X1.out _ (HB.out.rowRd (A := A1))) ?_; rintro e w_ ⟨rfl, hb_⟩; replace HB := Lib.hid (HB.out.call hb_); clear hb_) | (go_at_call 13; with_reducible refine Kx.args_gate #[.slice _ 1 _, .int .i64 2, _, _] ?_; refine Calls.mono (X2.out _ (HB.out.rowRd (A := A1))) ?_; rintro e w_ ⟨rfl, hb_⟩; replace HB := Lib.hid (HB.out.call hb_); clear hb_) | (go_at_call 13; with_reducible refine Kx.args_gate #[.slice _ 2 _, .int .i64 2, _, _] ?_; refine Calls.mono (X3.out _ (HB.out.rowRd (A := A2))) ?_; rintro e w_ ⟨rfl, hb_⟩; replace HB := Lib.hid (HB.out.call hb_); clear hb_) | (go_at_call 13; with_reducible refine Kx.args_gate #[.slice _ 2 _, .int .i64 3, _, _] ?_; refine Calls.mono (X4.out _ (HB.out.rowRd (A := A2))) ?_; rintro e w_ ⟨rfl, hb_⟩; replace HB := Lib.hid (HB.out.call hb_); clear hb_) | (go_at_call 13; with_reducible refine Kx.args_gate #[.slice _ 2 _, .int .i64 4, _, _] ?_; refine Calls.mono (X5.out _ (HB.out.rowRd (A := A2))) ?_; rintro e w_ ⟨rfl, hb_⟩; replace HB := Lib.hid (HB.out.call hb_); clear hb_))
  go_ret
  exact ⟨by simp, HB.out.below⟩
end Go.Proofs.Ytpchkhphpcopkaa
