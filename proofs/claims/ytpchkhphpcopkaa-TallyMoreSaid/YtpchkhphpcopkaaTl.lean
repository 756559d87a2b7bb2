/- The live question; a Put told of a list that is known. -/
import Derived.Test.YtpchkhphpcopkaaTe
import Derived.Test.YtpchkhphpcopkaaTh
namespace Go.Proofs.Ytpchkhphpcopkaa
open Go.RowKit Go.Shelf Km Kx

/-- Put, of lists that are known -/
theorem Put_as (l' : List Tm.Vt) (m : Nat) (A : Option Addr) (n cap B : Nat) (l : List Tm.Vt) (v : Tm.Vt) (w : World) (hr : Rd w B A (vvs l)) (hB : B ≤ w.heap.size) (hn : l.length = n) (hm : n ≤ 90000) (e : Tm.put l v = l') (hl : l'.length = m) :
    Calls Try.prog 11 #[.slice A n cap, .agg (vv v).toArray] w fun e w' => ∃ A' c', e = .returned (.slice A' m c') ∧ Below w.heap.size w w' ∧ w'.ownsRow w.heap.size 25 3 (.slice A' m c') m (vvs l') := by
  have h := Put_any A n cap B l v w hr hB hn hm
  rw [e] at h
  unfold PutEnd at h
  rw [hl] at h
  exact h
theorem built0 : Try.prog.built 25 [(0, .int .i64 0), (1, .int .u64 3)] = some (vv ⟨0, 3, 0⟩).toArray := by kernel_rfl
theorem built1 : Try.prog.built 25 [(0, .int .i64 1), (1, .int .u64 1)] = some (vv ⟨1, 1, 0⟩).toArray := by kernel_rfl
theorem wl_head : Wl [⟨0, 3, 0⟩, ⟨1, 1, 0⟩] := fun v hv => by
  rcases List.mem_cons.1 hv with rfl | hv
  · exact ⟨⟨by decide, by decide⟩, by decide, ⟨by decide, by decide⟩⟩
  · rw [List.mem_singleton] at hv
    subst hv
    exact ⟨⟨by decide, by decide⟩, by decide, ⟨by decide, by decide⟩⟩
set_option maxRecDepth 100000 in
theorem head_one : Tm.tally [⟨0, 3, 0⟩, ⟨1, 1, 0⟩] 3 0 5 = 1 := by decide +kernel
set_option maxRecDepth 100000 in
theorem head_two : Tm.tally [⟨0, 3, 0⟩, ⟨1, 1, 0⟩] 3 9 5 = 0 := by decide +kernel

set_option maxRecDepth 100000 in
set_option maxHeartbeats 1000000 in
theorem head_any (w : World) : Calls Try.prog 9 #[] w fun e w' => e = .returned (.bool true) ∧ Below w.heap.size w w' := by
  have HB := Lib.hid (Bxs.start w)
  go_enter Try.func9, Try.ntmps9
  go_wp2_with (first | ((with_reducible refine Kx.build_gate ?_); refine Km.wpList_build rfl 25 _ rfl #[(0, .int .i64 0), (1, .int .u64 3)] rfl (vv ⟨0, 3, 0⟩).toArray (built0) ?_; refine Kx.framed ?_ (by simp only [Act.put, List.setIfInBounds_toArray, List.set_cons_succ, List.set_cons_zero] <;> rfl)) | (go_at_call 11; fail))
  refine (Put_as [⟨0, 3, 0⟩] 1 none 0 0 w.heap.size [] ⟨0, 3, 0⟩ w (Rd.nil _ _ _) (Nat.le_refl _) rfl (by decide) rfl rfl).mono ?_
  rintro e w1 ⟨A1, c1, rfl, hb_, ho_⟩
  replace HB := Lib.hid (HB.out.callRow hb_ ho_)
  clear hb_ ho_
  go_wp2_with (first | ((with_reducible refine Kx.build_gate ?_); refine Km.wpList_build rfl 25 _ rfl #[(0, .int .i64 1), (1, .int .u64 1)] rfl (vv ⟨1, 1, 0⟩).toArray (built1) ?_; refine Kx.framed ?_ (by simp only [Act.put, List.setIfInBounds_toArray, List.set_cons_succ, List.set_cons_zero] <;> rfl)) | (go_at_call 11; fail))
  refine (Put_as [⟨0, 3, 0⟩, ⟨1, 1, 0⟩] 2 A1 1 c1 _ [⟨0, 3, 0⟩] ⟨1, 1, 0⟩ _ (HB.out.rowRd (A := A1)) (Nat.le_refl _) rfl (by decide) rfl rfl).mono ?_
  rintro e w2 ⟨A2, c2, rfl, hb_, ho_⟩
  replace HB := Lib.hid (HB.out.rowTail.callRow hb_ ho_)
  clear hb_ ho_
  have HT1 : Hid (∀ W, Rd W W.heap.size A2 (vvs [⟨0, 3, 0⟩, ⟨1, 1, 0⟩]) → Calls Try.prog 13 #[.slice A2 2 c2, .int .i64 3, .int .i64 0, .int .i64 5] W fun e w' => e = .returned (.int .u64 1) ∧ Below W.heap.size W w') := Lib.hid (fun W hr => by
    have h := Tally_any A2 2 c2 _ _ 3 0 5 W hr (Nat.le_refl _) rfl (by decide) wl_head ⟨by decide, by decide⟩
    rw [head_one] at h; exact h)
  have HT2 : Hid (∀ W, Rd W W.heap.size A2 (vvs [⟨0, 3, 0⟩, ⟨1, 1, 0⟩]) → Calls Try.prog 13 #[.slice A2 2 c2, .int .i64 3, .int .i64 9, .int .i64 5] W fun e w' => e = .returned (.int .u64 0) ∧ Below W.heap.size W w') := Lib.hid (fun W hr => by
    have h := Tally_any A2 2 c2 _ _ 3 9 5 W hr (Nat.le_refl _) rfl (by decide) wl_head ⟨by decide, by decide⟩
    rw [head_two] at h; exact h)
  go_wp2_with (first | (go_at_call 13; with_reducible refine Kx.args_gate #[_, _, .int .i64 0, _] ?_; refine Calls.mono (HT1.out _ (HB.out.rowRd (A := A2))) ?_; rintro e w_ ⟨rfl, hb_⟩; replace HB := Lib.hid (HB.out.call hb_); clear hb_) | (go_at_call 13; with_reducible refine Kx.args_gate #[_, _, .int .i64 9, _] ?_; refine Calls.mono (HT2.out _ (HB.out.rowRd (A := A2))) ?_; rintro e w_ ⟨rfl, hb_⟩; replace HB := Lib.hid (HB.out.call hb_); clear hb_))
  go_ret
  exact ⟨rfl, HB.out.below⟩
end Go.Proofs.Ytpchkhphpcopkaa
